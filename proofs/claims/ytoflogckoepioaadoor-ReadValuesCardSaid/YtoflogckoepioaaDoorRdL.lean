import Derived.Test.YtoflogckoepioaaDoorRfE
/- Contract of list of layer 5's document's answer. Written by tools/genRdL.py. -/
namespace Go.Proofs.YtoflogckoepioaaDoor.Re
open Go.RowKit
open Go.Proofs.YtoflogckoepioaaDoor.Utf
open Go.Proofs.YtoflogckoepioaaDoor.Sc

/-- the contract of the document's value, with so much fuel -/
def ValD (pb : Nat) (vL : Value) (ts : List Tok) (E : Int) (g : Nat) : Prop :=
  ∀ (d i p : Nat) (w : World), Prs w pb vL E i p 0 0 → RdT w pb vL ts → i ≤ ts.length → p ≤ 8192 → d ≤ 17 → 2 * (ts.length - i) + 2 ≤ g →
    Calls Tryd.prog 13 #[.pointer (some ⟨pb, 0, none⟩), .int .i64 d] w (GivesV pb vL E (pV ts E g d i p) w)
/-- where the document's answer stands -/
def nextD (w : World) (pb : Nat) : Nat := match w.cell? ⟨pb, 2, none⟩ with
  | some (.int _ k) => k.toNat
  | _ => 0
theorem Prs.next {w : World} {pb : Nat} {vL : Value} {E : Int} {i p : Nat} {a y : Int} (h : Prs w pb vL E i p a y) : nextD w pb = i := by
  unfold nextD
  rw [h.cells.2.2.2.1]
  exact Int.toNat_natCast i

/-- a list that is being made -/
def LsD (w wr : World) (pb : Nat) (vL : Value) (ts : List Tok) (E : Int) (f d : Nat) (R : Rs (List V)) : Prop :=
  ∃ (n j q : Nat) (vl : Value) (cs : List Value) (a y : Int),
    Prs wr pb vL E j q a y ∧ w.grownBy wr (some pb) ∧ wr.heap[w.heap.size]? = some (.cells #[.int .i64 0, .int .i64 0, .string ⟨#[]⟩, .slice none 0 0, .slice none 0 0] 25 (0, 0)) ∧
    wr.heap[w.heap.size + 1]? = some (.cells #[.int .i64 5, .int .i64 0, .string ⟨#[]⟩, vl, .slice none 0 0] 25 (0, 0)) ∧
    wr.ownsRow (w.heap.size + 2) 25 5 vl n cs ∧ j ≤ ts.length ∧ n ≤ j ∧
    ((a = 0 ∧ y = 0 ∧ ∃ (acc : List V) (f' : Nat), n = acc.length ∧ R = (pL ts E f' d j q).map (fun l => acc ++ l) ∧ q ≤ 8192 ∧ f' ≤ f ∧ 2 * (ts.length - j) + 3 ≤ f' ∧ Its wr (w.heap.size + 2) vl.ownBlock acc cs) ∨ (y ≠ 0 ∧ R = .bad a y))

set_option maxRecDepth 100000 in
set_option maxHeartbeats 8000000 in
theorem listD_any (pb : Nat) (vL : Value) (ts : List Tok) (E : Int) (hi2 : ts.length ≤ 65536) (f : Nat) (IH : ∀ g, g < f → ValD pb vL ts E g) (d i p : Nat) (w : World) (hp : Prs w pb vL E i p 0 0) (hr : RdT w pb vL ts) (hi : i ≤ ts.length)
    (hpp : p ≤ 8192) (hd : d ≤ 16) (hf : 2 * (ts.length - i) + 3 ≤ f) :
    Calls Tryd.prog 23 #[.pointer (some ⟨pb, 0, none⟩), .int .i64 d] w (GivesV pb vL E ((gL ts E f d i p true).map lsV) w) := by
  have hlt := hp.cells.1
  obtain ⟨i0, hi0, hz0, hz1, hz2⟩ := info_parts infoVal
  obtain ⟨wa, hwa⟩ : ∃ wa, wa = (w.alloc (.cells #[.int .i64 0, .int .i64 0, .string ⟨#[]⟩, .slice none 0 0, .slice none 0 0] 25)).alloc (.cells #[.int .i64 5, .int .i64 0, .string ⟨#[]⟩, .slice none 0 0, .slice none 0 0] 25) := ⟨_, rfl⟩
  have hs1 : (w.alloc (.cells #[.int .i64 0, .int .i64 0, .string ⟨#[]⟩, .slice none 0 0, .slice none 0 0] 25)).heap.size = w.heap.size + 1 := szAlloc' _ _
  have hba : Below w.heap.size w wa := by rw [hwa]; exact ((Below.refl _ _).alloc (Nat.le_refl _) _).alloc (by rw [hs1]; omega) _
  have hsa : wa.heap.size = w.heap.size + 2 := by rw [hwa, szAlloc', szAlloc']
  have hza : wa.heap[w.heap.size]? = some (.cells #[.int .i64 0, .int .i64 0, .string ⟨#[]⟩, .slice none 0 0, .slice none 0 0] 25 (0, 0)) := by rw [hwa]; exact (heap_alloc_old _ _ (by rw [hs1]; omega)).trans (heap_alloc_new w _)
  have hzb : wa.heap[w.heap.size + 1]? = some (.cells #[.int .i64 5, .int .i64 0, .string ⟨#[]⟩, .slice none 0 0, .slice none 0 0] 25 (0, 0)) := by
    have := heap_alloc_new (w.alloc (.cells #[.int .i64 0, .int .i64 0, .string ⟨#[]⟩, .slice none 0 0, .slice none 0 0] 25)) (.cells #[.int .i64 5, .int .i64 0, .string ⟨#[]⟩, .slice none 0 0, .slice none 0 0] 25)
    rw [hs1] at this
    rw [hwa]; exact this
  have hM := mark_any pb vL ts E i p 0 0 93 ⟨#[93]⟩ wa (hp.below hba) (RdT_fr hr (Nat.le_of_lt hlt) (Fr.of pb hba)) (by rw [ByteArray.toList_eq]) (by omega)
  have hwr : IntKind.i64.wrap ((d : Int) + 1) = (d : Int) + 1 := IntWalk.i64_in _ (by omega)
  obtain ⟨R, hR⟩ : ∃ R, R = gL ts E f d i p true := ⟨_, rfl⟩
  rw [← hR]
  unfold gL at hR
  by_cases m1 : isM (tk ts E i) 93 = true
  · rw [if_pos m1] at hR
    rw [m1, if_pos rfl, hwa] at hM
    have HM := Lib.hid hM
    have HWA := Lib.hid hwa
    have HFA := Lib.hid (Fr.of pb hba)
    have HR := Lib.hid hR
    clear hM hwa hba hR hr IH hp m1 hwr
    go_enter Tryd.func23, Tryd.ntmps23
    go_wp2_with fail
    refine HM.out.mono ?_
    rw [← HWA.out]
    rintro e w6 ⟨rfl, hg6, hp6⟩
    have hs6 := hg6.size
    have hz6 := blk_fr hg6 (by omega) (by omega) hza
    have hv6 := blk_fr hg6 (by omega) (by omega) hzb
    obtain ⟨z0, z1, z2, z3, z4⟩ := cells5 hz6
    obtain ⟨qz0, qz1, qz2, qz3, qz4⟩ := frozen5 hz6
    obtain ⟨x0, x1, x2, x3, x4⟩ := cells5 hv6
    have HZF := Lib.hid hz6; clear hz6
    have HVF := Lib.hid hv6; clear hv6
    have HP6 := Lib.hid hp6; clear hp6
    have HG6 := Lib.hid hg6; clear hg6 hza hzb
    go_wp2_with fail
    have hn : w.heap.size ≠ pb := by omega
    have R5 := set5_row HZF.out (.int .i64 5) (.int .i64 0) (.string ⟨#[]⟩) (.slice none 0 0) (.slice none 0 0)
    have P5 := set5_prs HP6.out hn (.int .i64 5) (.int .i64 0) (.string ⟨#[]⟩) (.slice none 0 0) (.slice none 0 0)
    have F5 := set5_fr (Fr.trans HFA.out HG6.out) (Nat.le_refl _) (.int .i64 5) (.int .i64 0) (.string ⟨#[]⟩) (.slice none 0 0) (.slice none 0 0)
    refine bodyPost_ret (results5 rfl rfl R5) rfl ?_
    rw [HR.out]
    exact ⟨F5, _, _, _, _, _, _, _, _, _, rfl, RdV_leaf _ _ _ 5 0 [], P5⟩
  · rw [if_neg m1, if_pos rfl] at hR
    have m1' : isM (tk ts E i) 93 = false := by simpa using m1
    rw [m1', if_neg (by decide), hwa] at hM
    have HM := Lib.hid hM
    have HWA := Lib.hid hwa
    have HFA := Lib.hid (Fr.of pb hba)
    have HR := Lib.hid hR
    have HZA := Lib.hid hza
    have HZB := Lib.hid hzb
    have HRT := Lib.hid hr
    have HIH := Lib.hid IH
    clear hM hwa hba hR hr IH hp m1 m1' hza hzb
    go_enter Tryd.func23, Tryd.ntmps23
    go_wp2_with fail
    refine HM.out.mono ?_
    rw [← HWA.out]
    rintro e w1 ⟨rfl, hf1, hp1⟩
    have hlt1 := hp1.cells.1
    have HP1 := Lib.hid hp1; clear hp1
    have HF1 := Lib.hid hf1; clear hf1
    go_wp2_with fail
    go_loopw [15] (fun _ wr => LsD w wr pb vL ts E f d R) (fun _ wr => ts.length - nextD wr pb)
    case atStart =>
      refine ⟨0, i, p, .slice none 0 0, [], 0, 0, HP1.out, Fr.trans HFA.out HF1.out, blk_fr HF1.out (by omega) (by omega) HZA.out, blk_fr HF1.out (by omega) (by omega) HZB.out, World.ownsRow_nil _ _ _ _, hi, Nat.zero_le _, .inl ⟨rfl, rfl, [], f, rfl, ?_, hpp, Nat.le_refl _, hf, rfl⟩⟩
      rw [HR.out]; exact (Rs.map_id _).symm
    case round =>
      obtain ⟨n, j, q, vl, cs, a, y, hpr, hgr, hz, hv, hown, hj, hnj, hcase⟩ := hrel
      obtain ⟨A, c, rfl⟩ := own_sl hown
      have hltr := hpr.cells.1
      have cy := hpr.cells.2.2.2.2.2.2.1
      have hsr := hgr.size
      have hsv : w.heap.size + 1 < wr.heap.size := (Array.getElem?_eq_some_iff.1 hv).1
      rcases hcase with ⟨rfl, rfl, acc, f', hna, hR1, hq, hff, hfu, hits⟩ | ⟨hy, hR1⟩
      · obtain ⟨y0, y1, y2, y3, y4⟩ := cells5 hv
        obtain ⟨f'', rfl⟩ : ∃ g, f' = g + 1 := ⟨f' - 1, by omega⟩
        have hVC : ∀ w, Prs w pb vL E j q 0 0 → RdT w pb vL ts → Calls Tryd.prog 13 #[.pointer (some ⟨pb, 0, none⟩), .int .i64 ((d : Int) + 1)] w (GivesV pb vL E (pV ts E f'' (d + 1) j q) w) := fun w hp hr => HIH.out f'' (by omega) (d + 1) j q w hp hr hj hq (by omega) (by omega)
        have HNX := Lib.hid hpr.next
        have HRT2 := Lib.hid (RdT_fr HRT.out (Nat.le_of_lt hlt) hgr)
        have HG := Lib.hid hgr; clear hgr
        have HZ := Lib.hid hz; clear hz
        have HV := Lib.hid hv; clear hv
        have HO := Lib.hid hown; clear hown
        have HI := Lib.hid hits; clear hits
        have HNA := Lib.hid hna; clear hna
        have HPR := Lib.hid hpr; clear hpr
        rcases hres : pV ts E f'' (d + 1) j q with ⟨a1, y1'⟩ | ⟨v, j1, q1⟩
        · rw [hres] at hVC
          have HVC := Lib.hid hVC; clear hVC
          have HRB := Lib.hid (show R = .bad a1 y1' by rw [hR1, pL_bad hres]; rfl)
          have hyb : (y1' != 0) = true := by
            rw [bne_iff_ne]; have h := (p_bad ts E f'').1 _ _ _ _ _ hres
            unfold why at h; omega
          clear hR1 hres
          go_wp2_with fail
          refine wp_region_held_drew (S := fun _ => True) (by kernel_rfl) (trivial) (fun hHeld => ?_)
          refine wpAnyH_take (i := 0) (oi := { dst := some 15, op := Op.fieldAddr 25 (Operand.tmp 5) 3, type := 0, pos := "ref.go:87", after := #[], guard := none }) (v := ?_) rfl (by kernel_rfl) (by kernel_rfl) (by kernel_rfl) (fun _ _ _ h => h) (Or.inl ⟨by rfl, ?_⟩) trivial ?_
          rotate_left
          · intro w hSw; (try dsimp only at hSw); go_simp; with_reducible rfl
          try simp only [Act.put, List.setIfInBounds_toArray, List.set_cons_zero, List.set_cons_succ]
          refine wpAnyH_take (i := 2) (oi := { dst := some 17, op := Op.move (Operand.tmp 0), type := 48, pos := "ref.go:87", after := #[], guard := none }) (v := ?_) rfl (by kernel_rfl) (by kernel_rfl) (by kernel_rfl) (fun _ _ _ h => h) (Or.inl ⟨by rfl, ?_⟩) trivial ?_
          rotate_left
          · intro w hSw; (try dsimp only at hSw); go_simp; with_reducible rfl
          try simp only [Act.put, List.setIfInBounds_toArray, List.set_cons_zero, List.set_cons_succ]
          refine wpAnyH_take (i := 3) (oi := { dst := some 18, op := Op.move (Operand.tmp 1), type := 3, pos := "ref.go:87", after := #[], guard := none }) (v := ?_) rfl (by kernel_rfl) (by kernel_rfl) (by kernel_rfl) (fun _ _ _ h => h) (Or.inl ⟨by rfl, ?_⟩) trivial ?_
          rotate_left
          · intro w hSw; (try dsimp only at hSw); go_simp; with_reducible rfl
          try simp only [Act.put, List.setIfInBounds_toArray, List.set_cons_zero, List.set_cons_succ]
          refine wpAnyH_take (i := 4) (oi := { dst := some 19, op := Op.binOp BinOp.add 3 (Operand.tmp 18) (Operand.const (Value.int IntKind.i64 1)) 3, type := 3, pos := "ref.go:87", after := #[{ on := 3, ground := Ground.data }], guard := none }) (v := ?_) rfl (by kernel_rfl) (by kernel_rfl) (by kernel_rfl) (fun _ _ _ h => h) (Or.inl ⟨by rfl, ?_⟩) trivial ?_
          rotate_left
          · intro w hSw; (try dsimp only at hSw); go_simp; with_reducible rfl
          try simp only [Act.put, List.setIfInBounds_toArray, List.set_cons_zero, List.set_cons_succ]
          refine wpAnyH_ready (rs := [1, 5]) (by kernel_rfl) (by simp) ?_
          refine AllReadyH.cons (o := { dst := some 16, op := Op.load 22 (Operand.tmp 15), type := 22, pos := "ref.go:87", after := #[{ on := 0, ground := Ground.data }], guard := none }) rfl (fun K hK => ?_) (AllReadyH.cons (o := { dst := some 20, op := Op.call { callee := Callee.value (Operand.func 13), args := #[Operand.tmp 17, Operand.tmp 19], argTypes := #[48, 3] }, type := 25, pos := "ref.go:87", after := #[{ on := 2, ground := Ground.data }, { on := 4, ground := Ground.data }], guard := none }) rfl (fun K hK => ?_) AllReadyH.nil)
          · go_simp
            refine hK.out _ _ trivial (fun _ => ?_)
            clear hK K
            try simp only [Act.put, List.setIfInBounds_toArray, List.set_cons_zero, List.set_cons_succ]
            refine wpAnyH_ready (rs := [5]) (by kernel_rfl) (by simp) ?_
            refine AllReadyH.cons (o := { dst := some 20, op := Op.call { callee := Callee.value (Operand.func 13), args := #[Operand.tmp 17, Operand.tmp 19], argTypes := #[48, 3] }, type := 25, pos := "ref.go:87", after := #[{ on := 2, ground := Ground.data }, { on := 4, ground := Ground.data }], guard := none }) rfl (fun K hK => ?_) AllReadyH.nil
            go_simp
            go_at_call 13
            refine (HVC.out wr.drew HPR.out HRT2.out).mono ?_
            rintro e w3 ⟨hg3, k3, n3, s3, A3, l3, c3, B3, m3, d3, rfl, i3, p3, hp3⟩
            have hgr3 := Fr.trans (Fr.drew (Fr.of pb (Below.refl wr.heap.size wr))) hg3
            have hv3 := blk_fr hgr3 (by omega) (by omega) HV.out
            have x3w := (cells5 hv3).2.2.2.1
            have hs23 : wr.heap.size ≤ w3.heap.size := hg3.size
            have hown3 := HO.out.kept hgr3 (.inr (own_ne HO.out (by omega)))
            refine hK.out _ _ trivial (fun _ => ?_)
            clear hK K
            try simp only [Act.put, List.setIfInBounds_toArray, List.set_cons_zero, List.set_cons_succ]
            refine wpAnyH_ready (rs := [6]) (by kernel_rfl) (by simp) ?_
            refine AllReadyH.cons (o := { dst := some 21, op := Op.buildSlice 22 1 #[(0, Operand.tmp 20)], type := 22, pos := "ref.go:87", after := #[{ on := 5, ground := Ground.data }], guard := none }) rfl (fun K hK => ?_) AllReadyH.nil
            go_simp
            refine hK.out _ _ trivial (fun _ => ?_)
            clear hK K
            try simp only [Act.put, List.setIfInBounds_toArray, List.set_cons_zero, List.set_cons_succ]
            have x3b := (cells5 ((heap_alloc_old w3 (.cells #[.int .i64 k3, .int .i64 n3, .string s3, .slice A3 l3 c3, .slice B3 m3 d3] 25) (by omega)).trans hv3)).2.2.2.1
            refine wpAnyH_ready (rs := [7]) (by kernel_rfl) (by simp) ?_
            refine AllReadyH.cons (o := { dst := some 22, op := Op.call { callee := Callee.builtin Builtin.append, args := #[Operand.tmp 16, Operand.tmp 21], argTypes := #[22, 22] }, type := 22, pos := "ref.go:87", after := #[{ on := 1, ground := Ground.data }, { on := 6, ground := Ground.data }, { on := 5, ground := Ground.chain }], guard := none }) rfl (fun K hK => ?_) AllReadyH.nil
            refine step_append_lies _ (by rfl) _ _ _ (by rfl) (w.heap.size + 2) 25 i0 _ 5 80 Tryd.underlying22 hi0 hz0 hz1 hz2 (by rfl) (by omega) (.slice A n c) n cs (by rfl) (hown3.alloc _) ⟨w3.heap.size, 0, none⟩ 1 1 [.int .i64 k3, .int .i64 n3, .string s3, .slice A3 l3 c3, .slice B3 m3 d3] (by rfl) (by rfl) (World.news_of_block (cs := #[.int .i64 k3, .int .i64 n3, .string s3, .slice A3 l3 c3, .slice B3 m3 d3]) (t := 25) (fr := (0, 0)) (heap_alloc_new w3 _)) (by simp [Value.oneCell']) (by omega) (by unfold maxLen; omega) (by omega) (by simp; omega) (w3.heap.size + 1) (by simp) ?_
            intro g cap w4 hown4 hg4 hat hlt4
            have hv4 := (blk_next hg4 (b := w.heap.size + 1) (by omega) (own_ne HO.out (by omega))).trans hv3
            have x3w := (cells5 hv4).2.2.2.1
            have f3w := (frozen5 hv4).2.2.2.1
            refine hK.out _ _ trivial (fun _ => ?_)
            clear hK K
            try simp only [Act.put, List.setIfInBounds_toArray, List.set_cons_zero, List.set_cons_succ]
            refine wpAnyH_take (i := 8) (oi := { dst := some 23, op := Op.fieldAddr 25 (Operand.tmp 5) 3, type := 0, pos := "ref.go:87", after := #[{ on := 0, ground := Ground.phase }, { on := 1, ground := Ground.phase }, { on := 2, ground := Ground.phase }, { on := 3, ground := Ground.phase }, { on := 4, ground := Ground.phase }, { on := 5, ground := Ground.phase }, { on := 6, ground := Ground.phase }, { on := 7, ground := Ground.phase }], guard := none }) (v := ?_) rfl (by kernel_rfl) (by kernel_rfl) (by kernel_rfl) (fun _ _ _ h => h) (Or.inl ⟨by rfl, ?_⟩) trivial ?_
            rotate_left
            · intro w hSw; (try dsimp only at hSw); go_simp; with_reducible rfl
            try simp only [Act.put, List.setIfInBounds_toArray, List.set_cons_zero, List.set_cons_succ]
            refine wpAnyH_ready (rs := [9]) (by kernel_rfl) (by simp) ?_
            refine AllReadyH.cons (o := { dst := none, op := Op.store 22 (Operand.tmp 23) (Operand.tmp 22), type := 0, pos := "ref.go:87", after := #[{ on := 8, ground := Ground.data }, { on := 7, ground := Ground.data }, { on := 7, ground := Ground.chain }, { on := 0, ground := Ground.phase }, { on := 1, ground := Ground.phase }, { on := 2, ground := Ground.phase }, { on := 3, ground := Ground.phase }, { on := 4, ground := Ground.phase }, { on := 5, ground := Ground.phase }, { on := 6, ground := Ground.phase }, { on := 7, ground := Ground.phase }], guard := none }) rfl (fun K hK => ?_) AllReadyH.nil
            go_simp
            refine hK.out _ _ trivial (fun _ => ?_)
            clear hK K
            try simp only [Act.put, List.setIfInBounds_toArray, List.set_cons_zero, List.set_cons_succ]
            refine wpAnyH_done (by kernel_rfl) ?_ _
            obtain ⟨w5, hw5⟩ : ∃ w5, w5 = w4.setCell ⟨w.heap.size + 1, 3, none⟩ (.slice (some ⟨g, 0, none⟩) (n + 1) cap) := ⟨_, rfl⟩
            have hv5 : w5.heap[w.heap.size + 1]? = some (.cells #[.int .i64 5, .int .i64 0, .string ⟨#[]⟩, .slice (some ⟨g, 0, none⟩) (n + 1) cap, .slice none 0 0] 25 (0, 0)) := by rw [hw5]; exact heap_setCell_same w4 (w.heap.size + 1) 3 _ _ _ hv4
            have hz5 : w5.heap[w.heap.size]? = some (.cells #[.int .i64 0, .int .i64 0, .string ⟨#[]⟩, .slice none 0 0, .slice none 0 0] 25 (0, 0)) := by rw [hw5]; exact (heap_setCell_other w4 ⟨w.heap.size + 1, 3, none⟩ w.heap.size _ (by show w.heap.size ≠ w.heap.size + 1; omega)).trans ((blk_next hg4 (by omega) (own_ne HO.out (by omega))).trans (blk_fr hgr3 (by omega) (by omega) HZ.out))
            have hp5 : Prs w5 pb vL E i3 p3 a1 y1' := by rw [hw5]; exact (heap_setCell_other w4 ⟨w.heap.size + 1, 3, none⟩ pb _ (by show pb ≠ w.heap.size + 1; omega)).trans ((blk_next hg4 (by omega) (own_ne HO.out (by omega))).trans hp3)
            have hgr5 : w.grownBy w5 (some pb) := by rw [hw5]; exact Fr.next (Fr.trans HG.out hgr3) hg4 (fun k hk => by have := (HO.out.lt k hk).1; omega) ⟨w.heap.size + 1, 3, none⟩ (by show w.heap.size ≤ w.heap.size + 1; omega) _
            have hown5 : w5.ownsRow (w.heap.size + 2) 25 5 (.slice (some ⟨g, 0, none⟩) (n + 1) cap) (n + 1) (cs ++ [.int .i64 k3, .int .i64 n3, .string s3, .slice A3 l3 c3, .slice B3 m3 d3]) := by rw [hw5]; exact ownsRow_setCell_below hown4 (by show w.heap.size + 1 < w.heap.size + 2; omega) _
            rw [← hw5]
            have hlt5 := hp5.cells.1
            have c5 := hp5.cells.2.2.2.2.2.2.1
            have hs5 : w.heap.size + 1 < w5.heap.size := (Array.getElem?_eq_some_iff.1 hv5).1
            clear hw5 hv4 hg4 hat hlt4 hown4 hv3 x3w f3w hgr3 hg3 hp3 hown3
            obtain ⟨z0, z1, z2, z3, z4⟩ := cells5 hz5
            obtain ⟨qz0, qz1, qz2, qz3, qz4⟩ := frozen5 hz5
            obtain ⟨x0, x1, x2, x3, x4⟩ := cells5 hv5
            have HZF := Lib.hid hz5; clear hz5
            have HVF := Lib.hid hv5; clear hv5
            have HP5 := Lib.hid hp5; clear hp5
            have HG5 := Lib.hid hgr5; clear hgr5
            go_wp2_with fail
            have hn : w.heap.size ≠ pb := by omega
            have R5 := set5_row HZF.out (.int .i64 5) (.int .i64 0) (.string ⟨#[]⟩) (.slice (some ⟨g, 0, none⟩) (n + 1) cap) (.slice none 0 0)
            have P5 := set5_prs HP5.out hn (.int .i64 5) (.int .i64 0) (.string ⟨#[]⟩) (.slice (some ⟨g, 0, none⟩) (n + 1) cap) (.slice none 0 0)
            have F5 := set5_fr (HG5.out) (Nat.le_refl _) (.int .i64 5) (.int .i64 0) (.string ⟨#[]⟩) (.slice (some ⟨g, 0, none⟩) (n + 1) cap) (.slice none 0 0)
            refine bodyPost_ret (results5 rfl rfl R5) rfl ?_
            rw [HRB.out]
            exact ⟨F5, _, _, _, _, _, _, _, _, _, rfl, _, _, P5⟩
          · go_simp
            go_at_call 13
            refine (HVC.out wr.drew HPR.out HRT2.out).mono ?_
            rintro e w3 ⟨hg3, k3, n3, s3, A3, l3, c3, B3, m3, d3, rfl, i3, p3, hp3⟩
            have hgr3 := Fr.trans (Fr.drew (Fr.of pb (Below.refl wr.heap.size wr))) hg3
            have hv3 := blk_fr hgr3 (by omega) (by omega) HV.out
            have x3w := (cells5 hv3).2.2.2.1
            have hs23 : wr.heap.size ≤ w3.heap.size := hg3.size
            have hown3 := HO.out.kept hgr3 (.inr (own_ne HO.out (by omega)))
            refine hK.out _ _ trivial (fun _ => ?_)
            clear hK K
            try simp only [Act.put, List.setIfInBounds_toArray, List.set_cons_zero, List.set_cons_succ]
            refine wpAnyH_ready (rs := [1, 6]) (by kernel_rfl) (by simp) ?_
            refine AllReadyH.cons (o := { dst := some 16, op := Op.load 22 (Operand.tmp 15), type := 22, pos := "ref.go:87", after := #[{ on := 0, ground := Ground.data }], guard := none }) rfl (fun K hK => ?_) (AllReadyH.cons (o := { dst := some 21, op := Op.buildSlice 22 1 #[(0, Operand.tmp 20)], type := 22, pos := "ref.go:87", after := #[{ on := 5, ground := Ground.data }], guard := none }) rfl (fun K hK => ?_) AllReadyH.nil)
            · go_simp
              refine hK.out _ _ trivial (fun _ => ?_)
              clear hK K
              try simp only [Act.put, List.setIfInBounds_toArray, List.set_cons_zero, List.set_cons_succ]
              refine wpAnyH_ready (rs := [6]) (by kernel_rfl) (by simp) ?_
              refine AllReadyH.cons (o := { dst := some 21, op := Op.buildSlice 22 1 #[(0, Operand.tmp 20)], type := 22, pos := "ref.go:87", after := #[{ on := 5, ground := Ground.data }], guard := none }) rfl (fun K hK => ?_) AllReadyH.nil
              go_simp
              refine hK.out _ _ trivial (fun _ => ?_)
              clear hK K
              try simp only [Act.put, List.setIfInBounds_toArray, List.set_cons_zero, List.set_cons_succ]
              have x3b := (cells5 ((heap_alloc_old w3 (.cells #[.int .i64 k3, .int .i64 n3, .string s3, .slice A3 l3 c3, .slice B3 m3 d3] 25) (by omega)).trans hv3)).2.2.2.1
              refine wpAnyH_ready (rs := [7]) (by kernel_rfl) (by simp) ?_
              refine AllReadyH.cons (o := { dst := some 22, op := Op.call { callee := Callee.builtin Builtin.append, args := #[Operand.tmp 16, Operand.tmp 21], argTypes := #[22, 22] }, type := 22, pos := "ref.go:87", after := #[{ on := 1, ground := Ground.data }, { on := 6, ground := Ground.data }, { on := 5, ground := Ground.chain }], guard := none }) rfl (fun K hK => ?_) AllReadyH.nil
              refine step_append_lies _ (by rfl) _ _ _ (by rfl) (w.heap.size + 2) 25 i0 _ 5 80 Tryd.underlying22 hi0 hz0 hz1 hz2 (by rfl) (by omega) (.slice A n c) n cs (by rfl) (hown3.alloc _) ⟨w3.heap.size, 0, none⟩ 1 1 [.int .i64 k3, .int .i64 n3, .string s3, .slice A3 l3 c3, .slice B3 m3 d3] (by rfl) (by rfl) (World.news_of_block (cs := #[.int .i64 k3, .int .i64 n3, .string s3, .slice A3 l3 c3, .slice B3 m3 d3]) (t := 25) (fr := (0, 0)) (heap_alloc_new w3 _)) (by simp [Value.oneCell']) (by omega) (by unfold maxLen; omega) (by omega) (by simp; omega) (w3.heap.size + 1) (by simp) ?_
              intro g cap w4 hown4 hg4 hat hlt4
              have hv4 := (blk_next hg4 (b := w.heap.size + 1) (by omega) (own_ne HO.out (by omega))).trans hv3
              have x3w := (cells5 hv4).2.2.2.1
              have f3w := (frozen5 hv4).2.2.2.1
              refine hK.out _ _ trivial (fun _ => ?_)
              clear hK K
              try simp only [Act.put, List.setIfInBounds_toArray, List.set_cons_zero, List.set_cons_succ]
              refine wpAnyH_take (i := 8) (oi := { dst := some 23, op := Op.fieldAddr 25 (Operand.tmp 5) 3, type := 0, pos := "ref.go:87", after := #[{ on := 0, ground := Ground.phase }, { on := 1, ground := Ground.phase }, { on := 2, ground := Ground.phase }, { on := 3, ground := Ground.phase }, { on := 4, ground := Ground.phase }, { on := 5, ground := Ground.phase }, { on := 6, ground := Ground.phase }, { on := 7, ground := Ground.phase }], guard := none }) (v := ?_) rfl (by kernel_rfl) (by kernel_rfl) (by kernel_rfl) (fun _ _ _ h => h) (Or.inl ⟨by rfl, ?_⟩) trivial ?_
              rotate_left
              · intro w hSw; (try dsimp only at hSw); go_simp; with_reducible rfl
              try simp only [Act.put, List.setIfInBounds_toArray, List.set_cons_zero, List.set_cons_succ]
              refine wpAnyH_ready (rs := [9]) (by kernel_rfl) (by simp) ?_
              refine AllReadyH.cons (o := { dst := none, op := Op.store 22 (Operand.tmp 23) (Operand.tmp 22), type := 0, pos := "ref.go:87", after := #[{ on := 8, ground := Ground.data }, { on := 7, ground := Ground.data }, { on := 7, ground := Ground.chain }, { on := 0, ground := Ground.phase }, { on := 1, ground := Ground.phase }, { on := 2, ground := Ground.phase }, { on := 3, ground := Ground.phase }, { on := 4, ground := Ground.phase }, { on := 5, ground := Ground.phase }, { on := 6, ground := Ground.phase }, { on := 7, ground := Ground.phase }], guard := none }) rfl (fun K hK => ?_) AllReadyH.nil
              go_simp
              refine hK.out _ _ trivial (fun _ => ?_)
              clear hK K
              try simp only [Act.put, List.setIfInBounds_toArray, List.set_cons_zero, List.set_cons_succ]
              refine wpAnyH_done (by kernel_rfl) ?_ _
              obtain ⟨w5, hw5⟩ : ∃ w5, w5 = w4.setCell ⟨w.heap.size + 1, 3, none⟩ (.slice (some ⟨g, 0, none⟩) (n + 1) cap) := ⟨_, rfl⟩
              have hv5 : w5.heap[w.heap.size + 1]? = some (.cells #[.int .i64 5, .int .i64 0, .string ⟨#[]⟩, .slice (some ⟨g, 0, none⟩) (n + 1) cap, .slice none 0 0] 25 (0, 0)) := by rw [hw5]; exact heap_setCell_same w4 (w.heap.size + 1) 3 _ _ _ hv4
              have hz5 : w5.heap[w.heap.size]? = some (.cells #[.int .i64 0, .int .i64 0, .string ⟨#[]⟩, .slice none 0 0, .slice none 0 0] 25 (0, 0)) := by rw [hw5]; exact (heap_setCell_other w4 ⟨w.heap.size + 1, 3, none⟩ w.heap.size _ (by show w.heap.size ≠ w.heap.size + 1; omega)).trans ((blk_next hg4 (by omega) (own_ne HO.out (by omega))).trans (blk_fr hgr3 (by omega) (by omega) HZ.out))
              have hp5 : Prs w5 pb vL E i3 p3 a1 y1' := by rw [hw5]; exact (heap_setCell_other w4 ⟨w.heap.size + 1, 3, none⟩ pb _ (by show pb ≠ w.heap.size + 1; omega)).trans ((blk_next hg4 (by omega) (own_ne HO.out (by omega))).trans hp3)
              have hgr5 : w.grownBy w5 (some pb) := by rw [hw5]; exact Fr.next (Fr.trans HG.out hgr3) hg4 (fun k hk => by have := (HO.out.lt k hk).1; omega) ⟨w.heap.size + 1, 3, none⟩ (by show w.heap.size ≤ w.heap.size + 1; omega) _
              have hown5 : w5.ownsRow (w.heap.size + 2) 25 5 (.slice (some ⟨g, 0, none⟩) (n + 1) cap) (n + 1) (cs ++ [.int .i64 k3, .int .i64 n3, .string s3, .slice A3 l3 c3, .slice B3 m3 d3]) := by rw [hw5]; exact ownsRow_setCell_below hown4 (by show w.heap.size + 1 < w.heap.size + 2; omega) _
              rw [← hw5]
              have hlt5 := hp5.cells.1
              have c5 := hp5.cells.2.2.2.2.2.2.1
              have hs5 : w.heap.size + 1 < w5.heap.size := (Array.getElem?_eq_some_iff.1 hv5).1
              clear hw5 hv4 hg4 hat hlt4 hown4 hv3 x3w f3w hgr3 hg3 hp3 hown3
              obtain ⟨z0, z1, z2, z3, z4⟩ := cells5 hz5
              obtain ⟨qz0, qz1, qz2, qz3, qz4⟩ := frozen5 hz5
              obtain ⟨x0, x1, x2, x3, x4⟩ := cells5 hv5
              have HZF := Lib.hid hz5; clear hz5
              have HVF := Lib.hid hv5; clear hv5
              have HP5 := Lib.hid hp5; clear hp5
              have HG5 := Lib.hid hgr5; clear hgr5
              go_wp2_with fail
              have hn : w.heap.size ≠ pb := by omega
              have R5 := set5_row HZF.out (.int .i64 5) (.int .i64 0) (.string ⟨#[]⟩) (.slice (some ⟨g, 0, none⟩) (n + 1) cap) (.slice none 0 0)
              have P5 := set5_prs HP5.out hn (.int .i64 5) (.int .i64 0) (.string ⟨#[]⟩) (.slice (some ⟨g, 0, none⟩) (n + 1) cap) (.slice none 0 0)
              have F5 := set5_fr (HG5.out) (Nat.le_refl _) (.int .i64 5) (.int .i64 0) (.string ⟨#[]⟩) (.slice (some ⟨g, 0, none⟩) (n + 1) cap) (.slice none 0 0)
              refine bodyPost_ret (results5 rfl rfl R5) rfl ?_
              rw [HRB.out]
              exact ⟨F5, _, _, _, _, _, _, _, _, _, rfl, _, _, P5⟩
            · go_simp
              refine hK.out _ _ trivial (fun _ => ?_)
              clear hK K
              try simp only [Act.put, List.setIfInBounds_toArray, List.set_cons_zero, List.set_cons_succ]
              have x3b := (cells5 ((heap_alloc_old w3 (.cells #[.int .i64 k3, .int .i64 n3, .string s3, .slice A3 l3 c3, .slice B3 m3 d3] 25) (by omega)).trans hv3)).2.2.2.1
              refine wpAnyH_ready (rs := [1]) (by kernel_rfl) (by simp) ?_
              refine AllReadyH.cons (o := { dst := some 16, op := Op.load 22 (Operand.tmp 15), type := 22, pos := "ref.go:87", after := #[{ on := 0, ground := Ground.data }], guard := none }) rfl (fun K hK => ?_) AllReadyH.nil
              go_simp
              refine hK.out _ _ trivial (fun _ => ?_)
              clear hK K
              try simp only [Act.put, List.setIfInBounds_toArray, List.set_cons_zero, List.set_cons_succ]
              refine wpAnyH_ready (rs := [7]) (by kernel_rfl) (by simp) ?_
              refine AllReadyH.cons (o := { dst := some 22, op := Op.call { callee := Callee.builtin Builtin.append, args := #[Operand.tmp 16, Operand.tmp 21], argTypes := #[22, 22] }, type := 22, pos := "ref.go:87", after := #[{ on := 1, ground := Ground.data }, { on := 6, ground := Ground.data }, { on := 5, ground := Ground.chain }], guard := none }) rfl (fun K hK => ?_) AllReadyH.nil
              refine step_append_lies _ (by rfl) _ _ _ (by rfl) (w.heap.size + 2) 25 i0 _ 5 80 Tryd.underlying22 hi0 hz0 hz1 hz2 (by rfl) (by omega) (.slice A n c) n cs (by rfl) (hown3.alloc _) ⟨w3.heap.size, 0, none⟩ 1 1 [.int .i64 k3, .int .i64 n3, .string s3, .slice A3 l3 c3, .slice B3 m3 d3] (by rfl) (by rfl) (World.news_of_block (cs := #[.int .i64 k3, .int .i64 n3, .string s3, .slice A3 l3 c3, .slice B3 m3 d3]) (t := 25) (fr := (0, 0)) (heap_alloc_new w3 _)) (by simp [Value.oneCell']) (by omega) (by unfold maxLen; omega) (by omega) (by simp; omega) (w3.heap.size + 1) (by simp) ?_
              intro g cap w4 hown4 hg4 hat hlt4
              have hv4 := (blk_next hg4 (b := w.heap.size + 1) (by omega) (own_ne HO.out (by omega))).trans hv3
              have x3w := (cells5 hv4).2.2.2.1
              have f3w := (frozen5 hv4).2.2.2.1
              refine hK.out _ _ trivial (fun _ => ?_)
              clear hK K
              try simp only [Act.put, List.setIfInBounds_toArray, List.set_cons_zero, List.set_cons_succ]
              refine wpAnyH_take (i := 8) (oi := { dst := some 23, op := Op.fieldAddr 25 (Operand.tmp 5) 3, type := 0, pos := "ref.go:87", after := #[{ on := 0, ground := Ground.phase }, { on := 1, ground := Ground.phase }, { on := 2, ground := Ground.phase }, { on := 3, ground := Ground.phase }, { on := 4, ground := Ground.phase }, { on := 5, ground := Ground.phase }, { on := 6, ground := Ground.phase }, { on := 7, ground := Ground.phase }], guard := none }) (v := ?_) rfl (by kernel_rfl) (by kernel_rfl) (by kernel_rfl) (fun _ _ _ h => h) (Or.inl ⟨by rfl, ?_⟩) trivial ?_
              rotate_left
              · intro w hSw; (try dsimp only at hSw); go_simp; with_reducible rfl
              try simp only [Act.put, List.setIfInBounds_toArray, List.set_cons_zero, List.set_cons_succ]
              refine wpAnyH_ready (rs := [9]) (by kernel_rfl) (by simp) ?_
              refine AllReadyH.cons (o := { dst := none, op := Op.store 22 (Operand.tmp 23) (Operand.tmp 22), type := 0, pos := "ref.go:87", after := #[{ on := 8, ground := Ground.data }, { on := 7, ground := Ground.data }, { on := 7, ground := Ground.chain }, { on := 0, ground := Ground.phase }, { on := 1, ground := Ground.phase }, { on := 2, ground := Ground.phase }, { on := 3, ground := Ground.phase }, { on := 4, ground := Ground.phase }, { on := 5, ground := Ground.phase }, { on := 6, ground := Ground.phase }, { on := 7, ground := Ground.phase }], guard := none }) rfl (fun K hK => ?_) AllReadyH.nil
              go_simp
              refine hK.out _ _ trivial (fun _ => ?_)
              clear hK K
              try simp only [Act.put, List.setIfInBounds_toArray, List.set_cons_zero, List.set_cons_succ]
              refine wpAnyH_done (by kernel_rfl) ?_ _
              obtain ⟨w5, hw5⟩ : ∃ w5, w5 = w4.setCell ⟨w.heap.size + 1, 3, none⟩ (.slice (some ⟨g, 0, none⟩) (n + 1) cap) := ⟨_, rfl⟩
              have hv5 : w5.heap[w.heap.size + 1]? = some (.cells #[.int .i64 5, .int .i64 0, .string ⟨#[]⟩, .slice (some ⟨g, 0, none⟩) (n + 1) cap, .slice none 0 0] 25 (0, 0)) := by rw [hw5]; exact heap_setCell_same w4 (w.heap.size + 1) 3 _ _ _ hv4
              have hz5 : w5.heap[w.heap.size]? = some (.cells #[.int .i64 0, .int .i64 0, .string ⟨#[]⟩, .slice none 0 0, .slice none 0 0] 25 (0, 0)) := by rw [hw5]; exact (heap_setCell_other w4 ⟨w.heap.size + 1, 3, none⟩ w.heap.size _ (by show w.heap.size ≠ w.heap.size + 1; omega)).trans ((blk_next hg4 (by omega) (own_ne HO.out (by omega))).trans (blk_fr hgr3 (by omega) (by omega) HZ.out))
              have hp5 : Prs w5 pb vL E i3 p3 a1 y1' := by rw [hw5]; exact (heap_setCell_other w4 ⟨w.heap.size + 1, 3, none⟩ pb _ (by show pb ≠ w.heap.size + 1; omega)).trans ((blk_next hg4 (by omega) (own_ne HO.out (by omega))).trans hp3)
              have hgr5 : w.grownBy w5 (some pb) := by rw [hw5]; exact Fr.next (Fr.trans HG.out hgr3) hg4 (fun k hk => by have := (HO.out.lt k hk).1; omega) ⟨w.heap.size + 1, 3, none⟩ (by show w.heap.size ≤ w.heap.size + 1; omega) _
              have hown5 : w5.ownsRow (w.heap.size + 2) 25 5 (.slice (some ⟨g, 0, none⟩) (n + 1) cap) (n + 1) (cs ++ [.int .i64 k3, .int .i64 n3, .string s3, .slice A3 l3 c3, .slice B3 m3 d3]) := by rw [hw5]; exact ownsRow_setCell_below hown4 (by show w.heap.size + 1 < w.heap.size + 2; omega) _
              rw [← hw5]
              have hlt5 := hp5.cells.1
              have c5 := hp5.cells.2.2.2.2.2.2.1
              have hs5 : w.heap.size + 1 < w5.heap.size := (Array.getElem?_eq_some_iff.1 hv5).1
              clear hw5 hv4 hg4 hat hlt4 hown4 hv3 x3w f3w hgr3 hg3 hp3 hown3
              obtain ⟨z0, z1, z2, z3, z4⟩ := cells5 hz5
              obtain ⟨qz0, qz1, qz2, qz3, qz4⟩ := frozen5 hz5
              obtain ⟨x0, x1, x2, x3, x4⟩ := cells5 hv5
              have HZF := Lib.hid hz5; clear hz5
              have HVF := Lib.hid hv5; clear hv5
              have HP5 := Lib.hid hp5; clear hp5
              have HG5 := Lib.hid hgr5; clear hgr5
              go_wp2_with fail
              have hn : w.heap.size ≠ pb := by omega
              have R5 := set5_row HZF.out (.int .i64 5) (.int .i64 0) (.string ⟨#[]⟩) (.slice (some ⟨g, 0, none⟩) (n + 1) cap) (.slice none 0 0)
              have P5 := set5_prs HP5.out hn (.int .i64 5) (.int .i64 0) (.string ⟨#[]⟩) (.slice (some ⟨g, 0, none⟩) (n + 1) cap) (.slice none 0 0)
              have F5 := set5_fr (HG5.out) (Nat.le_refl _) (.int .i64 5) (.int .i64 0) (.string ⟨#[]⟩) (.slice (some ⟨g, 0, none⟩) (n + 1) cap) (.slice none 0 0)
              refine bodyPost_ret (results5 rfl rfl R5) rfl ?_
              rw [HRB.out]
              exact ⟨F5, _, _, _, _, _, _, _, _, _, rfl, _, _, P5⟩
        · rw [hres] at hVC
          have hok := (p_ok ts E f'').1 _ _ _ _ _ _ hres hq
          have HRN := Lib.hid (hR1.trans (gL_step acc hres))
          have HVC := Lib.hid hVC; clear hVC
          obtain ⟨ok1, ok2, _, ok3, _, _⟩ := hok
          clear hR1 hres
          go_wp2_with fail
          refine wp_region_held_drew (S := fun _ => True) (by kernel_rfl) (trivial) (fun hHeld => ?_)
          refine wpAnyH_take (i := 0) (oi := { dst := some 15, op := Op.fieldAddr 25 (Operand.tmp 5) 3, type := 0, pos := "ref.go:87", after := #[], guard := none }) (v := ?_) rfl (by kernel_rfl) (by kernel_rfl) (by kernel_rfl) (fun _ _ _ h => h) (Or.inl ⟨by rfl, ?_⟩) trivial ?_
          rotate_left
          · intro w hSw; (try dsimp only at hSw); go_simp; with_reducible rfl
          try simp only [Act.put, List.setIfInBounds_toArray, List.set_cons_zero, List.set_cons_succ]
          refine wpAnyH_take (i := 2) (oi := { dst := some 17, op := Op.move (Operand.tmp 0), type := 48, pos := "ref.go:87", after := #[], guard := none }) (v := ?_) rfl (by kernel_rfl) (by kernel_rfl) (by kernel_rfl) (fun _ _ _ h => h) (Or.inl ⟨by rfl, ?_⟩) trivial ?_
          rotate_left
          · intro w hSw; (try dsimp only at hSw); go_simp; with_reducible rfl
          try simp only [Act.put, List.setIfInBounds_toArray, List.set_cons_zero, List.set_cons_succ]
          refine wpAnyH_take (i := 3) (oi := { dst := some 18, op := Op.move (Operand.tmp 1), type := 3, pos := "ref.go:87", after := #[], guard := none }) (v := ?_) rfl (by kernel_rfl) (by kernel_rfl) (by kernel_rfl) (fun _ _ _ h => h) (Or.inl ⟨by rfl, ?_⟩) trivial ?_
          rotate_left
          · intro w hSw; (try dsimp only at hSw); go_simp; with_reducible rfl
          try simp only [Act.put, List.setIfInBounds_toArray, List.set_cons_zero, List.set_cons_succ]
          refine wpAnyH_take (i := 4) (oi := { dst := some 19, op := Op.binOp BinOp.add 3 (Operand.tmp 18) (Operand.const (Value.int IntKind.i64 1)) 3, type := 3, pos := "ref.go:87", after := #[{ on := 3, ground := Ground.data }], guard := none }) (v := ?_) rfl (by kernel_rfl) (by kernel_rfl) (by kernel_rfl) (fun _ _ _ h => h) (Or.inl ⟨by rfl, ?_⟩) trivial ?_
          rotate_left
          · intro w hSw; (try dsimp only at hSw); go_simp; with_reducible rfl
          try simp only [Act.put, List.setIfInBounds_toArray, List.set_cons_zero, List.set_cons_succ]
          refine wpAnyH_ready (rs := [1, 5]) (by kernel_rfl) (by simp) ?_
          refine AllReadyH.cons (o := { dst := some 16, op := Op.load 22 (Operand.tmp 15), type := 22, pos := "ref.go:87", after := #[{ on := 0, ground := Ground.data }], guard := none }) rfl (fun K hK => ?_) (AllReadyH.cons (o := { dst := some 20, op := Op.call { callee := Callee.value (Operand.func 13), args := #[Operand.tmp 17, Operand.tmp 19], argTypes := #[48, 3] }, type := 25, pos := "ref.go:87", after := #[{ on := 2, ground := Ground.data }, { on := 4, ground := Ground.data }], guard := none }) rfl (fun K hK => ?_) AllReadyH.nil)
          · go_simp
            refine hK.out _ _ trivial (fun _ => ?_)
            clear hK K
            try simp only [Act.put, List.setIfInBounds_toArray, List.set_cons_zero, List.set_cons_succ]
            refine wpAnyH_ready (rs := [5]) (by kernel_rfl) (by simp) ?_
            refine AllReadyH.cons (o := { dst := some 20, op := Op.call { callee := Callee.value (Operand.func 13), args := #[Operand.tmp 17, Operand.tmp 19], argTypes := #[48, 3] }, type := 25, pos := "ref.go:87", after := #[{ on := 2, ground := Ground.data }, { on := 4, ground := Ground.data }], guard := none }) rfl (fun K hK => ?_) AllReadyH.nil
            go_simp
            go_at_call 13
            refine (HVC.out wr.drew HPR.out HRT2.out).mono ?_
            rintro e w3 ⟨hg3, k3, n3, s3, A3, l3, c3, B3, m3, d3, rfl, hV3, hp3⟩
            have hgr3 := Fr.trans (Fr.drew (Fr.of pb (Below.refl wr.heap.size wr))) hg3
            have hv3 := blk_fr hgr3 (by omega) (by omega) HV.out
            have x3w := (cells5 hv3).2.2.2.1
            have hs23 : wr.heap.size ≤ w3.heap.size := hg3.size
            have hown3 := HO.out.kept hgr3 (.inr (own_ne HO.out (by omega)))
            refine hK.out _ _ trivial (fun _ => ?_)
            clear hK K
            try simp only [Act.put, List.setIfInBounds_toArray, List.set_cons_zero, List.set_cons_succ]
            refine wpAnyH_ready (rs := [6]) (by kernel_rfl) (by simp) ?_
            refine AllReadyH.cons (o := { dst := some 21, op := Op.buildSlice 22 1 #[(0, Operand.tmp 20)], type := 22, pos := "ref.go:87", after := #[{ on := 5, ground := Ground.data }], guard := none }) rfl (fun K hK => ?_) AllReadyH.nil
            go_simp
            refine hK.out _ _ trivial (fun _ => ?_)
            clear hK K
            try simp only [Act.put, List.setIfInBounds_toArray, List.set_cons_zero, List.set_cons_succ]
            have x3b := (cells5 ((heap_alloc_old w3 (.cells #[.int .i64 k3, .int .i64 n3, .string s3, .slice A3 l3 c3, .slice B3 m3 d3] 25) (by omega)).trans hv3)).2.2.2.1
            refine wpAnyH_ready (rs := [7]) (by kernel_rfl) (by simp) ?_
            refine AllReadyH.cons (o := { dst := some 22, op := Op.call { callee := Callee.builtin Builtin.append, args := #[Operand.tmp 16, Operand.tmp 21], argTypes := #[22, 22] }, type := 22, pos := "ref.go:87", after := #[{ on := 1, ground := Ground.data }, { on := 6, ground := Ground.data }, { on := 5, ground := Ground.chain }], guard := none }) rfl (fun K hK => ?_) AllReadyH.nil
            refine step_append_lies _ (by rfl) _ _ _ (by rfl) (w.heap.size + 2) 25 i0 _ 5 80 Tryd.underlying22 hi0 hz0 hz1 hz2 (by rfl) (by omega) (.slice A n c) n cs (by rfl) (hown3.alloc _) ⟨w3.heap.size, 0, none⟩ 1 1 [.int .i64 k3, .int .i64 n3, .string s3, .slice A3 l3 c3, .slice B3 m3 d3] (by rfl) (by rfl) (World.news_of_block (cs := #[.int .i64 k3, .int .i64 n3, .string s3, .slice A3 l3 c3, .slice B3 m3 d3]) (t := 25) (fr := (0, 0)) (heap_alloc_new w3 _)) (by simp [Value.oneCell']) (by omega) (by unfold maxLen; omega) (by omega) (by simp; omega) (w3.heap.size + 1) (by simp) ?_
            intro g cap w4 hown4 hg4 hat hlt4
            have hv4 := (blk_next hg4 (b := w.heap.size + 1) (by omega) (own_ne HO.out (by omega))).trans hv3
            have x3w := (cells5 hv4).2.2.2.1
            have f3w := (frozen5 hv4).2.2.2.1
            refine hK.out _ _ trivial (fun _ => ?_)
            clear hK K
            try simp only [Act.put, List.setIfInBounds_toArray, List.set_cons_zero, List.set_cons_succ]
            refine wpAnyH_take (i := 8) (oi := { dst := some 23, op := Op.fieldAddr 25 (Operand.tmp 5) 3, type := 0, pos := "ref.go:87", after := #[{ on := 0, ground := Ground.phase }, { on := 1, ground := Ground.phase }, { on := 2, ground := Ground.phase }, { on := 3, ground := Ground.phase }, { on := 4, ground := Ground.phase }, { on := 5, ground := Ground.phase }, { on := 6, ground := Ground.phase }, { on := 7, ground := Ground.phase }], guard := none }) (v := ?_) rfl (by kernel_rfl) (by kernel_rfl) (by kernel_rfl) (fun _ _ _ h => h) (Or.inl ⟨by rfl, ?_⟩) trivial ?_
            rotate_left
            · intro w hSw; (try dsimp only at hSw); go_simp; with_reducible rfl
            try simp only [Act.put, List.setIfInBounds_toArray, List.set_cons_zero, List.set_cons_succ]
            refine wpAnyH_ready (rs := [9]) (by kernel_rfl) (by simp) ?_
            refine AllReadyH.cons (o := { dst := none, op := Op.store 22 (Operand.tmp 23) (Operand.tmp 22), type := 0, pos := "ref.go:87", after := #[{ on := 8, ground := Ground.data }, { on := 7, ground := Ground.data }, { on := 7, ground := Ground.chain }, { on := 0, ground := Ground.phase }, { on := 1, ground := Ground.phase }, { on := 2, ground := Ground.phase }, { on := 3, ground := Ground.phase }, { on := 4, ground := Ground.phase }, { on := 5, ground := Ground.phase }, { on := 6, ground := Ground.phase }, { on := 7, ground := Ground.phase }], guard := none }) rfl (fun K hK => ?_) AllReadyH.nil
            go_simp
            refine hK.out _ _ trivial (fun _ => ?_)
            clear hK K
            try simp only [Act.put, List.setIfInBounds_toArray, List.set_cons_zero, List.set_cons_succ]
            refine wpAnyH_done (by kernel_rfl) ?_ _
            obtain ⟨w5, hw5⟩ : ∃ w5, w5 = w4.setCell ⟨w.heap.size + 1, 3, none⟩ (.slice (some ⟨g, 0, none⟩) (n + 1) cap) := ⟨_, rfl⟩
            have hv5 : w5.heap[w.heap.size + 1]? = some (.cells #[.int .i64 5, .int .i64 0, .string ⟨#[]⟩, .slice (some ⟨g, 0, none⟩) (n + 1) cap, .slice none 0 0] 25 (0, 0)) := by rw [hw5]; exact heap_setCell_same w4 (w.heap.size + 1) 3 _ _ _ hv4
            have hz5 : w5.heap[w.heap.size]? = some (.cells #[.int .i64 0, .int .i64 0, .string ⟨#[]⟩, .slice none 0 0, .slice none 0 0] 25 (0, 0)) := by rw [hw5]; exact (heap_setCell_other w4 ⟨w.heap.size + 1, 3, none⟩ w.heap.size _ (by show w.heap.size ≠ w.heap.size + 1; omega)).trans ((blk_next hg4 (by omega) (own_ne HO.out (by omega))).trans (blk_fr hgr3 (by omega) (by omega) HZ.out))
            have hp5 : Prs w5 pb vL E j1 q1 0 0 := by rw [hw5]; exact (heap_setCell_other w4 ⟨w.heap.size + 1, 3, none⟩ pb _ (by show pb ≠ w.heap.size + 1; omega)).trans ((blk_next hg4 (by omega) (own_ne HO.out (by omega))).trans hp3)
            have hgr5 : w.grownBy w5 (some pb) := by rw [hw5]; exact Fr.next (Fr.trans HG.out hgr3) hg4 (fun k hk => by have := (HO.out.lt k hk).1; omega) ⟨w.heap.size + 1, 3, none⟩ (by show w.heap.size ≤ w.heap.size + 1; omega) _
            have hown5 : w5.ownsRow (w.heap.size + 2) 25 5 (.slice (some ⟨g, 0, none⟩) (n + 1) cap) (n + 1) (cs ++ [.int .i64 k3, .int .i64 n3, .string s3, .slice A3 l3 c3, .slice B3 m3 d3]) := by rw [hw5]; exact ownsRow_setCell_below hown4 (by show w.heap.size + 1 < w.heap.size + 2; omega) _
            have hits5 : Its w5 (w.heap.size + 2) (some g) (acc ++ [v]) (cs ++ [.int .i64 k3, .int .i64 n3, .string s3, .slice A3 l3 c3, .slice B3 m3 d3]) := by rw [hw5]; exact Its.next hgr3 (by omega) (by omega) hg4 (fun k hk => (HO.out.lt k hk).2) hat HI.out rfl (by simp [Value.oneCell']) (Nat.le_refl _) hV3 ⟨w.heap.size + 1, 3, none⟩ (by show w.heap.size + 1 < w.heap.size + 2; omega) _
            rw [← hw5]
            have hlt5 := hp5.cells.1
            have c5 := hp5.cells.2.2.2.2.2.2.1
            have hs5 : w.heap.size + 1 < w5.heap.size := (Array.getElem?_eq_some_iff.1 hv5).1
            clear hw5 hv4 hg4 hat hlt4 hown4 hv3 x3w f3w hgr3 hg3 hp3 hown3
            have hr5 := RdT_fr HRT.out (Nat.le_of_lt hlt) hgr5
            have hM1 := mark_any pb vL ts E j1 q1 0 0 93 ⟨#[93]⟩ w5 hp5 hr5 (by rw [ByteArray.toList_eq]) (by omega)
            by_cases b1 : isM (tk ts E j1) 93 = true
            · rw [b1, if_pos rfl] at hM1
              have HR6 := Lib.hid (show R = .ok ((acc ++ [v]) ++ []) (j1 + 1) q1 by have h := HRN.out; unfold gL at h; rw [if_pos b1] at h; exact h)
              have HM1 := Lib.hid hM1; clear hM1 hp5 hr5 b1
              go_wp2_with fail
              refine HM1.out.mono ?_
              rintro e w6 ⟨rfl, hg6, hp6⟩
              have hs6 := hg6.size
              have hz6 := blk_fr hg6 (by omega) (by omega) hz5
              have hv6 := blk_fr hg6 (by omega) (by omega) hv5
              obtain ⟨z0, z1, z2, z3, z4⟩ := cells5 hz6
              obtain ⟨qz0, qz1, qz2, qz3, qz4⟩ := frozen5 hz6
              obtain ⟨x0, x1, x2, x3, x4⟩ := cells5 hv6
              have HZF := Lib.hid hz6; clear hz6
              have HVF := Lib.hid hv6; clear hv6
              have HO5 := Lib.hid hown5; clear hown5
              have HI5 := Lib.hid hits5; clear hits5
              have HP6 := Lib.hid hp6; clear hp6
              have HG6 := Lib.hid hg6; clear hg6
              have HG5 := Lib.hid hgr5; clear hgr5 hz5 hv5
              go_wp2_with fail
              have hown6 := HO5.out.kept HG6.out (.inr (own_ne HO5.out (by omega)))
              have hits6 := HI5.out.keep (w' := w6) (g' := (Value.slice (some ⟨g, 0, none⟩) (n + 1) cap).ownBlock) (fun pp h1 h2 _ => World.cell?_of_block (HG6.out.block pp.block h2 (fun e => by have := Option.some.inj e; omega))) hs6 (fun k hk => .inl hk)
              have hl1 : (acc ++ [v]).length = n + 1 := by rw [List.length_append, ← HNA.out]; rfl
              rw [← hl1] at hown6
              have hn : w.heap.size ≠ pb := by omega
              have R5 := set5_row HZF.out (.int .i64 5) (.int .i64 0) (.string ⟨#[]⟩) (.slice (some ⟨g, 0, none⟩) (n + 1) cap) (.slice none 0 0)
              have P5 := set5_prs HP6.out hn (.int .i64 5) (.int .i64 0) (.string ⟨#[]⟩) (.slice (some ⟨g, 0, none⟩) (n + 1) cap) (.slice none 0 0)
              have F5 := set5_fr (Fr.trans HG5.out HG6.out) (Nat.le_refl _) (.int .i64 5) (.int .i64 0) (.string ⟨#[]⟩) (.slice (some ⟨g, 0, none⟩) (n + 1) cap) (.slice none 0 0)
              refine bodyPost_ret (results5 rfl rfl R5) rfl ?_
              rw [HR6.out, List.append_nil]
              refine ⟨F5, _, _, _, _, _, _, _, _, _, rfl, ?_, P5⟩
              have hV2 := RdV_ls hown6 hits6 (lo := w.heap.size + 2) (hi := w6.heap.size) (by omega) (by omega) (Nat.le_refl _)
              rw [hl1] at hV2
              exact RdV.keep (fun pp h1 h2 => cell_set5 _ _ _ (by omega) _ _ _ _ _) (by omega) (by simp) _ _ hV2
            · have b1' : isM (tk ts E j1) 93 = false := by simpa using b1
              rw [b1', if_neg (by decide)] at hM1
              have HM1 := Lib.hid hM1; clear hM1 hp5
              have HO5 := Lib.hid hown5; clear hown5
              have HI5 := Lib.hid hits5; clear hits5
              have HRT5 := Lib.hid hr5; clear hr5
              have HG5 := Lib.hid hgr5; clear hgr5
              have HV5 := Lib.hid hv5; clear hv5
              have HZ5 := Lib.hid hz5; clear hz5
              go_wp2_with fail
              refine HM1.out.mono ?_
              rintro e w6 ⟨rfl, hg6, hp6⟩
              have hs6 := hg6.size
              have hr6 := RdT_fr HRT5.out (Nat.le_of_lt hlt5) hg6
              have hM2 := mark_any pb vL ts E j1 q1 0 0 44 ⟨#[44]⟩ w6 hp6 hr6 (by rw [ByteArray.toList_eq]) (by omega)
              have HG6 := Lib.hid hg6; clear hg6
              by_cases b2 : isM (tk ts E j1) 44 = true
              · rw [b2, if_pos rfl] at hM2
                have HR6 := Lib.hid (show R = (pL ts E f'' d (j1 + 1) q1).map (fun l => (acc ++ [v]) ++ l) by have h := HRN.out; unfold gL at h; rw [if_neg b1, if_neg (by decide), if_pos b2] at h; exact h)
                have hin := isM_in b2
                have HM2 := Lib.hid hM2; clear hM2 hp6 hr6 b1 b1' b2
                go_wp2_with fail
                refine HM2.out.mono ?_
                rintro e w7 ⟨rfl, hg7, hp7⟩
                have HG7 := Lib.hid (Fr.trans HG6.out hg7); clear hg7
                have HP7 := Lib.hid hp7; clear hp7
                go_wp2_with fail
                go_roundw
                case rel =>
                  refine ⟨n + 1, j1 + 1, q1, .slice (some ⟨g, 0, none⟩) (n + 1) cap, cs ++ [.int .i64 k3, .int .i64 n3, .string s3, .slice A3 l3 c3, .slice B3 m3 d3], 0, 0, HP7.out, Fr.trans HG5.out HG7.out, blk_fr HG7.out (by omega) (by omega) HZ5.out, blk_fr HG7.out (by omega) (by omega) HV5.out, HO5.out.kept HG7.out (.inr (own_ne HO5.out (by omega))), by omega, by omega, .inl ⟨rfl, rfl, acc ++ [v], f'', ?_, HR6.out, by omega, by omega, by omega, ?_⟩⟩
                  · rw [List.length_append, ← HNA.out]; rfl
                  · exact HI5.out.keep (fun pp h1 h2 _ => World.cell?_of_block (HG7.out.block pp.block h2 (fun e => by have := Option.some.inj e; omega))) HG7.out.size (fun k hk => .inl hk)
                case measure =>
                  have m2 := HP7.out.next
                  rw [HNX.out, m2]
                  omega
              · have b2' : isM (tk ts E j1) 44 = false := by simpa using b2
                rw [b2', if_neg (by decide)] at hM2
                have HR6 := Lib.hid (show R = .bad (tk ts E j1).2.2.2 50 by have h := HRN.out; unfold gL at h; rw [if_neg b1, if_neg (by decide), if_neg b2] at h; exact h)
                have HM2 := Lib.hid hM2; clear hM2 hp6 hr6 b1 b1' b2 b2'
                go_wp2_with fail
                refine HM2.out.mono ?_
                rintro e w7 ⟨rfl, hg7, hp7⟩
                have hFL := fail_any pb vL ts E j1 q1 0 50 w7 hp7 (RdT_fr HRT5.out (Nat.le_of_lt hlt5) (Fr.trans HG6.out hg7))
                have HFL := Lib.hid hFL; clear hFL hp7
                have HG7 := Lib.hid (Fr.trans HG6.out hg7); clear hg7
                go_wp2_with fail
                refine HFL.out.mono ?_
                rintro e w8 ⟨rfl, hg8, hp8⟩
                have HG8 := Lib.hid (Fr.trans HG7.out hg8); clear hg8
                have HP8 := Lib.hid hp8; clear hp8
                unfold zeroV
                go_wp2_with fail
                go_roundw
                case rel =>
                  exact ⟨n + 1, j1, q1, .slice (some ⟨g, 0, none⟩) (n + 1) cap, cs ++ [.int .i64 k3, .int .i64 n3, .string s3, .slice A3 l3 c3, .slice B3 m3 d3], _, _, HP8.out, Fr.trans HG5.out HG8.out, blk_fr HG8.out (by omega) (by omega) HZ5.out, blk_fr HG8.out (by omega) (by omega) HV5.out, HO5.out.kept HG8.out (.inr (own_ne HO5.out (by omega))), by omega, by omega, .inr ⟨by decide, HR6.out⟩⟩
                case measure =>
                  have m2 := HP8.out.next
                  rw [HNX.out, m2]
                  omega
          · go_simp
            go_at_call 13
            refine (HVC.out wr.drew HPR.out HRT2.out).mono ?_
            rintro e w3 ⟨hg3, k3, n3, s3, A3, l3, c3, B3, m3, d3, rfl, hV3, hp3⟩
            have hgr3 := Fr.trans (Fr.drew (Fr.of pb (Below.refl wr.heap.size wr))) hg3
            have hv3 := blk_fr hgr3 (by omega) (by omega) HV.out
            have x3w := (cells5 hv3).2.2.2.1
            have hs23 : wr.heap.size ≤ w3.heap.size := hg3.size
            have hown3 := HO.out.kept hgr3 (.inr (own_ne HO.out (by omega)))
            refine hK.out _ _ trivial (fun _ => ?_)
            clear hK K
            try simp only [Act.put, List.setIfInBounds_toArray, List.set_cons_zero, List.set_cons_succ]
            refine wpAnyH_ready (rs := [1, 6]) (by kernel_rfl) (by simp) ?_
            refine AllReadyH.cons (o := { dst := some 16, op := Op.load 22 (Operand.tmp 15), type := 22, pos := "ref.go:87", after := #[{ on := 0, ground := Ground.data }], guard := none }) rfl (fun K hK => ?_) (AllReadyH.cons (o := { dst := some 21, op := Op.buildSlice 22 1 #[(0, Operand.tmp 20)], type := 22, pos := "ref.go:87", after := #[{ on := 5, ground := Ground.data }], guard := none }) rfl (fun K hK => ?_) AllReadyH.nil)
            · go_simp
              refine hK.out _ _ trivial (fun _ => ?_)
              clear hK K
              try simp only [Act.put, List.setIfInBounds_toArray, List.set_cons_zero, List.set_cons_succ]
              refine wpAnyH_ready (rs := [6]) (by kernel_rfl) (by simp) ?_
              refine AllReadyH.cons (o := { dst := some 21, op := Op.buildSlice 22 1 #[(0, Operand.tmp 20)], type := 22, pos := "ref.go:87", after := #[{ on := 5, ground := Ground.data }], guard := none }) rfl (fun K hK => ?_) AllReadyH.nil
              go_simp
              refine hK.out _ _ trivial (fun _ => ?_)
              clear hK K
              try simp only [Act.put, List.setIfInBounds_toArray, List.set_cons_zero, List.set_cons_succ]
              have x3b := (cells5 ((heap_alloc_old w3 (.cells #[.int .i64 k3, .int .i64 n3, .string s3, .slice A3 l3 c3, .slice B3 m3 d3] 25) (by omega)).trans hv3)).2.2.2.1
              refine wpAnyH_ready (rs := [7]) (by kernel_rfl) (by simp) ?_
              refine AllReadyH.cons (o := { dst := some 22, op := Op.call { callee := Callee.builtin Builtin.append, args := #[Operand.tmp 16, Operand.tmp 21], argTypes := #[22, 22] }, type := 22, pos := "ref.go:87", after := #[{ on := 1, ground := Ground.data }, { on := 6, ground := Ground.data }, { on := 5, ground := Ground.chain }], guard := none }) rfl (fun K hK => ?_) AllReadyH.nil
              refine step_append_lies _ (by rfl) _ _ _ (by rfl) (w.heap.size + 2) 25 i0 _ 5 80 Tryd.underlying22 hi0 hz0 hz1 hz2 (by rfl) (by omega) (.slice A n c) n cs (by rfl) (hown3.alloc _) ⟨w3.heap.size, 0, none⟩ 1 1 [.int .i64 k3, .int .i64 n3, .string s3, .slice A3 l3 c3, .slice B3 m3 d3] (by rfl) (by rfl) (World.news_of_block (cs := #[.int .i64 k3, .int .i64 n3, .string s3, .slice A3 l3 c3, .slice B3 m3 d3]) (t := 25) (fr := (0, 0)) (heap_alloc_new w3 _)) (by simp [Value.oneCell']) (by omega) (by unfold maxLen; omega) (by omega) (by simp; omega) (w3.heap.size + 1) (by simp) ?_
              intro g cap w4 hown4 hg4 hat hlt4
              have hv4 := (blk_next hg4 (b := w.heap.size + 1) (by omega) (own_ne HO.out (by omega))).trans hv3
              have x3w := (cells5 hv4).2.2.2.1
              have f3w := (frozen5 hv4).2.2.2.1
              refine hK.out _ _ trivial (fun _ => ?_)
              clear hK K
              try simp only [Act.put, List.setIfInBounds_toArray, List.set_cons_zero, List.set_cons_succ]
              refine wpAnyH_take (i := 8) (oi := { dst := some 23, op := Op.fieldAddr 25 (Operand.tmp 5) 3, type := 0, pos := "ref.go:87", after := #[{ on := 0, ground := Ground.phase }, { on := 1, ground := Ground.phase }, { on := 2, ground := Ground.phase }, { on := 3, ground := Ground.phase }, { on := 4, ground := Ground.phase }, { on := 5, ground := Ground.phase }, { on := 6, ground := Ground.phase }, { on := 7, ground := Ground.phase }], guard := none }) (v := ?_) rfl (by kernel_rfl) (by kernel_rfl) (by kernel_rfl) (fun _ _ _ h => h) (Or.inl ⟨by rfl, ?_⟩) trivial ?_
              rotate_left
              · intro w hSw; (try dsimp only at hSw); go_simp; with_reducible rfl
              try simp only [Act.put, List.setIfInBounds_toArray, List.set_cons_zero, List.set_cons_succ]
              refine wpAnyH_ready (rs := [9]) (by kernel_rfl) (by simp) ?_
              refine AllReadyH.cons (o := { dst := none, op := Op.store 22 (Operand.tmp 23) (Operand.tmp 22), type := 0, pos := "ref.go:87", after := #[{ on := 8, ground := Ground.data }, { on := 7, ground := Ground.data }, { on := 7, ground := Ground.chain }, { on := 0, ground := Ground.phase }, { on := 1, ground := Ground.phase }, { on := 2, ground := Ground.phase }, { on := 3, ground := Ground.phase }, { on := 4, ground := Ground.phase }, { on := 5, ground := Ground.phase }, { on := 6, ground := Ground.phase }, { on := 7, ground := Ground.phase }], guard := none }) rfl (fun K hK => ?_) AllReadyH.nil
              go_simp
              refine hK.out _ _ trivial (fun _ => ?_)
              clear hK K
              try simp only [Act.put, List.setIfInBounds_toArray, List.set_cons_zero, List.set_cons_succ]
              refine wpAnyH_done (by kernel_rfl) ?_ _
              obtain ⟨w5, hw5⟩ : ∃ w5, w5 = w4.setCell ⟨w.heap.size + 1, 3, none⟩ (.slice (some ⟨g, 0, none⟩) (n + 1) cap) := ⟨_, rfl⟩
              have hv5 : w5.heap[w.heap.size + 1]? = some (.cells #[.int .i64 5, .int .i64 0, .string ⟨#[]⟩, .slice (some ⟨g, 0, none⟩) (n + 1) cap, .slice none 0 0] 25 (0, 0)) := by rw [hw5]; exact heap_setCell_same w4 (w.heap.size + 1) 3 _ _ _ hv4
              have hz5 : w5.heap[w.heap.size]? = some (.cells #[.int .i64 0, .int .i64 0, .string ⟨#[]⟩, .slice none 0 0, .slice none 0 0] 25 (0, 0)) := by rw [hw5]; exact (heap_setCell_other w4 ⟨w.heap.size + 1, 3, none⟩ w.heap.size _ (by show w.heap.size ≠ w.heap.size + 1; omega)).trans ((blk_next hg4 (by omega) (own_ne HO.out (by omega))).trans (blk_fr hgr3 (by omega) (by omega) HZ.out))
              have hp5 : Prs w5 pb vL E j1 q1 0 0 := by rw [hw5]; exact (heap_setCell_other w4 ⟨w.heap.size + 1, 3, none⟩ pb _ (by show pb ≠ w.heap.size + 1; omega)).trans ((blk_next hg4 (by omega) (own_ne HO.out (by omega))).trans hp3)
              have hgr5 : w.grownBy w5 (some pb) := by rw [hw5]; exact Fr.next (Fr.trans HG.out hgr3) hg4 (fun k hk => by have := (HO.out.lt k hk).1; omega) ⟨w.heap.size + 1, 3, none⟩ (by show w.heap.size ≤ w.heap.size + 1; omega) _
              have hown5 : w5.ownsRow (w.heap.size + 2) 25 5 (.slice (some ⟨g, 0, none⟩) (n + 1) cap) (n + 1) (cs ++ [.int .i64 k3, .int .i64 n3, .string s3, .slice A3 l3 c3, .slice B3 m3 d3]) := by rw [hw5]; exact ownsRow_setCell_below hown4 (by show w.heap.size + 1 < w.heap.size + 2; omega) _
              have hits5 : Its w5 (w.heap.size + 2) (some g) (acc ++ [v]) (cs ++ [.int .i64 k3, .int .i64 n3, .string s3, .slice A3 l3 c3, .slice B3 m3 d3]) := by rw [hw5]; exact Its.next hgr3 (by omega) (by omega) hg4 (fun k hk => (HO.out.lt k hk).2) hat HI.out rfl (by simp [Value.oneCell']) (Nat.le_refl _) hV3 ⟨w.heap.size + 1, 3, none⟩ (by show w.heap.size + 1 < w.heap.size + 2; omega) _
              rw [← hw5]
              have hlt5 := hp5.cells.1
              have c5 := hp5.cells.2.2.2.2.2.2.1
              have hs5 : w.heap.size + 1 < w5.heap.size := (Array.getElem?_eq_some_iff.1 hv5).1
              clear hw5 hv4 hg4 hat hlt4 hown4 hv3 x3w f3w hgr3 hg3 hp3 hown3
              have hr5 := RdT_fr HRT.out (Nat.le_of_lt hlt) hgr5
              have hM1 := mark_any pb vL ts E j1 q1 0 0 93 ⟨#[93]⟩ w5 hp5 hr5 (by rw [ByteArray.toList_eq]) (by omega)
              by_cases b1 : isM (tk ts E j1) 93 = true
              · rw [b1, if_pos rfl] at hM1
                have HR6 := Lib.hid (show R = .ok ((acc ++ [v]) ++ []) (j1 + 1) q1 by have h := HRN.out; unfold gL at h; rw [if_pos b1] at h; exact h)
                have HM1 := Lib.hid hM1; clear hM1 hp5 hr5 b1
                go_wp2_with fail
                refine HM1.out.mono ?_
                rintro e w6 ⟨rfl, hg6, hp6⟩
                have hs6 := hg6.size
                have hz6 := blk_fr hg6 (by omega) (by omega) hz5
                have hv6 := blk_fr hg6 (by omega) (by omega) hv5
                obtain ⟨z0, z1, z2, z3, z4⟩ := cells5 hz6
                obtain ⟨qz0, qz1, qz2, qz3, qz4⟩ := frozen5 hz6
                obtain ⟨x0, x1, x2, x3, x4⟩ := cells5 hv6
                have HZF := Lib.hid hz6; clear hz6
                have HVF := Lib.hid hv6; clear hv6
                have HO5 := Lib.hid hown5; clear hown5
                have HI5 := Lib.hid hits5; clear hits5
                have HP6 := Lib.hid hp6; clear hp6
                have HG6 := Lib.hid hg6; clear hg6
                have HG5 := Lib.hid hgr5; clear hgr5 hz5 hv5
                go_wp2_with fail
                have hown6 := HO5.out.kept HG6.out (.inr (own_ne HO5.out (by omega)))
                have hits6 := HI5.out.keep (w' := w6) (g' := (Value.slice (some ⟨g, 0, none⟩) (n + 1) cap).ownBlock) (fun pp h1 h2 _ => World.cell?_of_block (HG6.out.block pp.block h2 (fun e => by have := Option.some.inj e; omega))) hs6 (fun k hk => .inl hk)
                have hl1 : (acc ++ [v]).length = n + 1 := by rw [List.length_append, ← HNA.out]; rfl
                rw [← hl1] at hown6
                have hn : w.heap.size ≠ pb := by omega
                have R5 := set5_row HZF.out (.int .i64 5) (.int .i64 0) (.string ⟨#[]⟩) (.slice (some ⟨g, 0, none⟩) (n + 1) cap) (.slice none 0 0)
                have P5 := set5_prs HP6.out hn (.int .i64 5) (.int .i64 0) (.string ⟨#[]⟩) (.slice (some ⟨g, 0, none⟩) (n + 1) cap) (.slice none 0 0)
                have F5 := set5_fr (Fr.trans HG5.out HG6.out) (Nat.le_refl _) (.int .i64 5) (.int .i64 0) (.string ⟨#[]⟩) (.slice (some ⟨g, 0, none⟩) (n + 1) cap) (.slice none 0 0)
                refine bodyPost_ret (results5 rfl rfl R5) rfl ?_
                rw [HR6.out, List.append_nil]
                refine ⟨F5, _, _, _, _, _, _, _, _, _, rfl, ?_, P5⟩
                have hV2 := RdV_ls hown6 hits6 (lo := w.heap.size + 2) (hi := w6.heap.size) (by omega) (by omega) (Nat.le_refl _)
                rw [hl1] at hV2
                exact RdV.keep (fun pp h1 h2 => cell_set5 _ _ _ (by omega) _ _ _ _ _) (by omega) (by simp) _ _ hV2
              · have b1' : isM (tk ts E j1) 93 = false := by simpa using b1
                rw [b1', if_neg (by decide)] at hM1
                have HM1 := Lib.hid hM1; clear hM1 hp5
                have HO5 := Lib.hid hown5; clear hown5
                have HI5 := Lib.hid hits5; clear hits5
                have HRT5 := Lib.hid hr5; clear hr5
                have HG5 := Lib.hid hgr5; clear hgr5
                have HV5 := Lib.hid hv5; clear hv5
                have HZ5 := Lib.hid hz5; clear hz5
                go_wp2_with fail
                refine HM1.out.mono ?_
                rintro e w6 ⟨rfl, hg6, hp6⟩
                have hs6 := hg6.size
                have hr6 := RdT_fr HRT5.out (Nat.le_of_lt hlt5) hg6
                have hM2 := mark_any pb vL ts E j1 q1 0 0 44 ⟨#[44]⟩ w6 hp6 hr6 (by rw [ByteArray.toList_eq]) (by omega)
                have HG6 := Lib.hid hg6; clear hg6
                by_cases b2 : isM (tk ts E j1) 44 = true
                · rw [b2, if_pos rfl] at hM2
                  have HR6 := Lib.hid (show R = (pL ts E f'' d (j1 + 1) q1).map (fun l => (acc ++ [v]) ++ l) by have h := HRN.out; unfold gL at h; rw [if_neg b1, if_neg (by decide), if_pos b2] at h; exact h)
                  have hin := isM_in b2
                  have HM2 := Lib.hid hM2; clear hM2 hp6 hr6 b1 b1' b2
                  go_wp2_with fail
                  refine HM2.out.mono ?_
                  rintro e w7 ⟨rfl, hg7, hp7⟩
                  have HG7 := Lib.hid (Fr.trans HG6.out hg7); clear hg7
                  have HP7 := Lib.hid hp7; clear hp7
                  go_wp2_with fail
                  go_roundw
                  case rel =>
                    refine ⟨n + 1, j1 + 1, q1, .slice (some ⟨g, 0, none⟩) (n + 1) cap, cs ++ [.int .i64 k3, .int .i64 n3, .string s3, .slice A3 l3 c3, .slice B3 m3 d3], 0, 0, HP7.out, Fr.trans HG5.out HG7.out, blk_fr HG7.out (by omega) (by omega) HZ5.out, blk_fr HG7.out (by omega) (by omega) HV5.out, HO5.out.kept HG7.out (.inr (own_ne HO5.out (by omega))), by omega, by omega, .inl ⟨rfl, rfl, acc ++ [v], f'', ?_, HR6.out, by omega, by omega, by omega, ?_⟩⟩
                    · rw [List.length_append, ← HNA.out]; rfl
                    · exact HI5.out.keep (fun pp h1 h2 _ => World.cell?_of_block (HG7.out.block pp.block h2 (fun e => by have := Option.some.inj e; omega))) HG7.out.size (fun k hk => .inl hk)
                  case measure =>
                    have m2 := HP7.out.next
                    rw [HNX.out, m2]
                    omega
                · have b2' : isM (tk ts E j1) 44 = false := by simpa using b2
                  rw [b2', if_neg (by decide)] at hM2
                  have HR6 := Lib.hid (show R = .bad (tk ts E j1).2.2.2 50 by have h := HRN.out; unfold gL at h; rw [if_neg b1, if_neg (by decide), if_neg b2] at h; exact h)
                  have HM2 := Lib.hid hM2; clear hM2 hp6 hr6 b1 b1' b2 b2'
                  go_wp2_with fail
                  refine HM2.out.mono ?_
                  rintro e w7 ⟨rfl, hg7, hp7⟩
                  have hFL := fail_any pb vL ts E j1 q1 0 50 w7 hp7 (RdT_fr HRT5.out (Nat.le_of_lt hlt5) (Fr.trans HG6.out hg7))
                  have HFL := Lib.hid hFL; clear hFL hp7
                  have HG7 := Lib.hid (Fr.trans HG6.out hg7); clear hg7
                  go_wp2_with fail
                  refine HFL.out.mono ?_
                  rintro e w8 ⟨rfl, hg8, hp8⟩
                  have HG8 := Lib.hid (Fr.trans HG7.out hg8); clear hg8
                  have HP8 := Lib.hid hp8; clear hp8
                  unfold zeroV
                  go_wp2_with fail
                  go_roundw
                  case rel =>
                    exact ⟨n + 1, j1, q1, .slice (some ⟨g, 0, none⟩) (n + 1) cap, cs ++ [.int .i64 k3, .int .i64 n3, .string s3, .slice A3 l3 c3, .slice B3 m3 d3], _, _, HP8.out, Fr.trans HG5.out HG8.out, blk_fr HG8.out (by omega) (by omega) HZ5.out, blk_fr HG8.out (by omega) (by omega) HV5.out, HO5.out.kept HG8.out (.inr (own_ne HO5.out (by omega))), by omega, by omega, .inr ⟨by decide, HR6.out⟩⟩
                  case measure =>
                    have m2 := HP8.out.next
                    rw [HNX.out, m2]
                    omega
            · go_simp
              refine hK.out _ _ trivial (fun _ => ?_)
              clear hK K
              try simp only [Act.put, List.setIfInBounds_toArray, List.set_cons_zero, List.set_cons_succ]
              have x3b := (cells5 ((heap_alloc_old w3 (.cells #[.int .i64 k3, .int .i64 n3, .string s3, .slice A3 l3 c3, .slice B3 m3 d3] 25) (by omega)).trans hv3)).2.2.2.1
              refine wpAnyH_ready (rs := [1]) (by kernel_rfl) (by simp) ?_
              refine AllReadyH.cons (o := { dst := some 16, op := Op.load 22 (Operand.tmp 15), type := 22, pos := "ref.go:87", after := #[{ on := 0, ground := Ground.data }], guard := none }) rfl (fun K hK => ?_) AllReadyH.nil
              go_simp
              refine hK.out _ _ trivial (fun _ => ?_)
              clear hK K
              try simp only [Act.put, List.setIfInBounds_toArray, List.set_cons_zero, List.set_cons_succ]
              refine wpAnyH_ready (rs := [7]) (by kernel_rfl) (by simp) ?_
              refine AllReadyH.cons (o := { dst := some 22, op := Op.call { callee := Callee.builtin Builtin.append, args := #[Operand.tmp 16, Operand.tmp 21], argTypes := #[22, 22] }, type := 22, pos := "ref.go:87", after := #[{ on := 1, ground := Ground.data }, { on := 6, ground := Ground.data }, { on := 5, ground := Ground.chain }], guard := none }) rfl (fun K hK => ?_) AllReadyH.nil
              refine step_append_lies _ (by rfl) _ _ _ (by rfl) (w.heap.size + 2) 25 i0 _ 5 80 Tryd.underlying22 hi0 hz0 hz1 hz2 (by rfl) (by omega) (.slice A n c) n cs (by rfl) (hown3.alloc _) ⟨w3.heap.size, 0, none⟩ 1 1 [.int .i64 k3, .int .i64 n3, .string s3, .slice A3 l3 c3, .slice B3 m3 d3] (by rfl) (by rfl) (World.news_of_block (cs := #[.int .i64 k3, .int .i64 n3, .string s3, .slice A3 l3 c3, .slice B3 m3 d3]) (t := 25) (fr := (0, 0)) (heap_alloc_new w3 _)) (by simp [Value.oneCell']) (by omega) (by unfold maxLen; omega) (by omega) (by simp; omega) (w3.heap.size + 1) (by simp) ?_
              intro g cap w4 hown4 hg4 hat hlt4
              have hv4 := (blk_next hg4 (b := w.heap.size + 1) (by omega) (own_ne HO.out (by omega))).trans hv3
              have x3w := (cells5 hv4).2.2.2.1
              have f3w := (frozen5 hv4).2.2.2.1
              refine hK.out _ _ trivial (fun _ => ?_)
              clear hK K
              try simp only [Act.put, List.setIfInBounds_toArray, List.set_cons_zero, List.set_cons_succ]
              refine wpAnyH_take (i := 8) (oi := { dst := some 23, op := Op.fieldAddr 25 (Operand.tmp 5) 3, type := 0, pos := "ref.go:87", after := #[{ on := 0, ground := Ground.phase }, { on := 1, ground := Ground.phase }, { on := 2, ground := Ground.phase }, { on := 3, ground := Ground.phase }, { on := 4, ground := Ground.phase }, { on := 5, ground := Ground.phase }, { on := 6, ground := Ground.phase }, { on := 7, ground := Ground.phase }], guard := none }) (v := ?_) rfl (by kernel_rfl) (by kernel_rfl) (by kernel_rfl) (fun _ _ _ h => h) (Or.inl ⟨by rfl, ?_⟩) trivial ?_
              rotate_left
              · intro w hSw; (try dsimp only at hSw); go_simp; with_reducible rfl
              try simp only [Act.put, List.setIfInBounds_toArray, List.set_cons_zero, List.set_cons_succ]
              refine wpAnyH_ready (rs := [9]) (by kernel_rfl) (by simp) ?_
              refine AllReadyH.cons (o := { dst := none, op := Op.store 22 (Operand.tmp 23) (Operand.tmp 22), type := 0, pos := "ref.go:87", after := #[{ on := 8, ground := Ground.data }, { on := 7, ground := Ground.data }, { on := 7, ground := Ground.chain }, { on := 0, ground := Ground.phase }, { on := 1, ground := Ground.phase }, { on := 2, ground := Ground.phase }, { on := 3, ground := Ground.phase }, { on := 4, ground := Ground.phase }, { on := 5, ground := Ground.phase }, { on := 6, ground := Ground.phase }, { on := 7, ground := Ground.phase }], guard := none }) rfl (fun K hK => ?_) AllReadyH.nil
              go_simp
              refine hK.out _ _ trivial (fun _ => ?_)
              clear hK K
              try simp only [Act.put, List.setIfInBounds_toArray, List.set_cons_zero, List.set_cons_succ]
              refine wpAnyH_done (by kernel_rfl) ?_ _
              obtain ⟨w5, hw5⟩ : ∃ w5, w5 = w4.setCell ⟨w.heap.size + 1, 3, none⟩ (.slice (some ⟨g, 0, none⟩) (n + 1) cap) := ⟨_, rfl⟩
              have hv5 : w5.heap[w.heap.size + 1]? = some (.cells #[.int .i64 5, .int .i64 0, .string ⟨#[]⟩, .slice (some ⟨g, 0, none⟩) (n + 1) cap, .slice none 0 0] 25 (0, 0)) := by rw [hw5]; exact heap_setCell_same w4 (w.heap.size + 1) 3 _ _ _ hv4
              have hz5 : w5.heap[w.heap.size]? = some (.cells #[.int .i64 0, .int .i64 0, .string ⟨#[]⟩, .slice none 0 0, .slice none 0 0] 25 (0, 0)) := by rw [hw5]; exact (heap_setCell_other w4 ⟨w.heap.size + 1, 3, none⟩ w.heap.size _ (by show w.heap.size ≠ w.heap.size + 1; omega)).trans ((blk_next hg4 (by omega) (own_ne HO.out (by omega))).trans (blk_fr hgr3 (by omega) (by omega) HZ.out))
              have hp5 : Prs w5 pb vL E j1 q1 0 0 := by rw [hw5]; exact (heap_setCell_other w4 ⟨w.heap.size + 1, 3, none⟩ pb _ (by show pb ≠ w.heap.size + 1; omega)).trans ((blk_next hg4 (by omega) (own_ne HO.out (by omega))).trans hp3)
              have hgr5 : w.grownBy w5 (some pb) := by rw [hw5]; exact Fr.next (Fr.trans HG.out hgr3) hg4 (fun k hk => by have := (HO.out.lt k hk).1; omega) ⟨w.heap.size + 1, 3, none⟩ (by show w.heap.size ≤ w.heap.size + 1; omega) _
              have hown5 : w5.ownsRow (w.heap.size + 2) 25 5 (.slice (some ⟨g, 0, none⟩) (n + 1) cap) (n + 1) (cs ++ [.int .i64 k3, .int .i64 n3, .string s3, .slice A3 l3 c3, .slice B3 m3 d3]) := by rw [hw5]; exact ownsRow_setCell_below hown4 (by show w.heap.size + 1 < w.heap.size + 2; omega) _
              have hits5 : Its w5 (w.heap.size + 2) (some g) (acc ++ [v]) (cs ++ [.int .i64 k3, .int .i64 n3, .string s3, .slice A3 l3 c3, .slice B3 m3 d3]) := by rw [hw5]; exact Its.next hgr3 (by omega) (by omega) hg4 (fun k hk => (HO.out.lt k hk).2) hat HI.out rfl (by simp [Value.oneCell']) (Nat.le_refl _) hV3 ⟨w.heap.size + 1, 3, none⟩ (by show w.heap.size + 1 < w.heap.size + 2; omega) _
              rw [← hw5]
              have hlt5 := hp5.cells.1
              have c5 := hp5.cells.2.2.2.2.2.2.1
              have hs5 : w.heap.size + 1 < w5.heap.size := (Array.getElem?_eq_some_iff.1 hv5).1
              clear hw5 hv4 hg4 hat hlt4 hown4 hv3 x3w f3w hgr3 hg3 hp3 hown3
              have hr5 := RdT_fr HRT.out (Nat.le_of_lt hlt) hgr5
              have hM1 := mark_any pb vL ts E j1 q1 0 0 93 ⟨#[93]⟩ w5 hp5 hr5 (by rw [ByteArray.toList_eq]) (by omega)
              by_cases b1 : isM (tk ts E j1) 93 = true
              · rw [b1, if_pos rfl] at hM1
                have HR6 := Lib.hid (show R = .ok ((acc ++ [v]) ++ []) (j1 + 1) q1 by have h := HRN.out; unfold gL at h; rw [if_pos b1] at h; exact h)
                have HM1 := Lib.hid hM1; clear hM1 hp5 hr5 b1
                go_wp2_with fail
                refine HM1.out.mono ?_
                rintro e w6 ⟨rfl, hg6, hp6⟩
                have hs6 := hg6.size
                have hz6 := blk_fr hg6 (by omega) (by omega) hz5
                have hv6 := blk_fr hg6 (by omega) (by omega) hv5
                obtain ⟨z0, z1, z2, z3, z4⟩ := cells5 hz6
                obtain ⟨qz0, qz1, qz2, qz3, qz4⟩ := frozen5 hz6
                obtain ⟨x0, x1, x2, x3, x4⟩ := cells5 hv6
                have HZF := Lib.hid hz6; clear hz6
                have HVF := Lib.hid hv6; clear hv6
                have HO5 := Lib.hid hown5; clear hown5
                have HI5 := Lib.hid hits5; clear hits5
                have HP6 := Lib.hid hp6; clear hp6
                have HG6 := Lib.hid hg6; clear hg6
                have HG5 := Lib.hid hgr5; clear hgr5 hz5 hv5
                go_wp2_with fail
                have hown6 := HO5.out.kept HG6.out (.inr (own_ne HO5.out (by omega)))
                have hits6 := HI5.out.keep (w' := w6) (g' := (Value.slice (some ⟨g, 0, none⟩) (n + 1) cap).ownBlock) (fun pp h1 h2 _ => World.cell?_of_block (HG6.out.block pp.block h2 (fun e => by have := Option.some.inj e; omega))) hs6 (fun k hk => .inl hk)
                have hl1 : (acc ++ [v]).length = n + 1 := by rw [List.length_append, ← HNA.out]; rfl
                rw [← hl1] at hown6
                have hn : w.heap.size ≠ pb := by omega
                have R5 := set5_row HZF.out (.int .i64 5) (.int .i64 0) (.string ⟨#[]⟩) (.slice (some ⟨g, 0, none⟩) (n + 1) cap) (.slice none 0 0)
                have P5 := set5_prs HP6.out hn (.int .i64 5) (.int .i64 0) (.string ⟨#[]⟩) (.slice (some ⟨g, 0, none⟩) (n + 1) cap) (.slice none 0 0)
                have F5 := set5_fr (Fr.trans HG5.out HG6.out) (Nat.le_refl _) (.int .i64 5) (.int .i64 0) (.string ⟨#[]⟩) (.slice (some ⟨g, 0, none⟩) (n + 1) cap) (.slice none 0 0)
                refine bodyPost_ret (results5 rfl rfl R5) rfl ?_
                rw [HR6.out, List.append_nil]
                refine ⟨F5, _, _, _, _, _, _, _, _, _, rfl, ?_, P5⟩
                have hV2 := RdV_ls hown6 hits6 (lo := w.heap.size + 2) (hi := w6.heap.size) (by omega) (by omega) (Nat.le_refl _)
                rw [hl1] at hV2
                exact RdV.keep (fun pp h1 h2 => cell_set5 _ _ _ (by omega) _ _ _ _ _) (by omega) (by simp) _ _ hV2
              · have b1' : isM (tk ts E j1) 93 = false := by simpa using b1
                rw [b1', if_neg (by decide)] at hM1
                have HM1 := Lib.hid hM1; clear hM1 hp5
                have HO5 := Lib.hid hown5; clear hown5
                have HI5 := Lib.hid hits5; clear hits5
                have HRT5 := Lib.hid hr5; clear hr5
                have HG5 := Lib.hid hgr5; clear hgr5
                have HV5 := Lib.hid hv5; clear hv5
                have HZ5 := Lib.hid hz5; clear hz5
                go_wp2_with fail
                refine HM1.out.mono ?_
                rintro e w6 ⟨rfl, hg6, hp6⟩
                have hs6 := hg6.size
                have hr6 := RdT_fr HRT5.out (Nat.le_of_lt hlt5) hg6
                have hM2 := mark_any pb vL ts E j1 q1 0 0 44 ⟨#[44]⟩ w6 hp6 hr6 (by rw [ByteArray.toList_eq]) (by omega)
                have HG6 := Lib.hid hg6; clear hg6
                by_cases b2 : isM (tk ts E j1) 44 = true
                · rw [b2, if_pos rfl] at hM2
                  have HR6 := Lib.hid (show R = (pL ts E f'' d (j1 + 1) q1).map (fun l => (acc ++ [v]) ++ l) by have h := HRN.out; unfold gL at h; rw [if_neg b1, if_neg (by decide), if_pos b2] at h; exact h)
                  have hin := isM_in b2
                  have HM2 := Lib.hid hM2; clear hM2 hp6 hr6 b1 b1' b2
                  go_wp2_with fail
                  refine HM2.out.mono ?_
                  rintro e w7 ⟨rfl, hg7, hp7⟩
                  have HG7 := Lib.hid (Fr.trans HG6.out hg7); clear hg7
                  have HP7 := Lib.hid hp7; clear hp7
                  go_wp2_with fail
                  go_roundw
                  case rel =>
                    refine ⟨n + 1, j1 + 1, q1, .slice (some ⟨g, 0, none⟩) (n + 1) cap, cs ++ [.int .i64 k3, .int .i64 n3, .string s3, .slice A3 l3 c3, .slice B3 m3 d3], 0, 0, HP7.out, Fr.trans HG5.out HG7.out, blk_fr HG7.out (by omega) (by omega) HZ5.out, blk_fr HG7.out (by omega) (by omega) HV5.out, HO5.out.kept HG7.out (.inr (own_ne HO5.out (by omega))), by omega, by omega, .inl ⟨rfl, rfl, acc ++ [v], f'', ?_, HR6.out, by omega, by omega, by omega, ?_⟩⟩
                    · rw [List.length_append, ← HNA.out]; rfl
                    · exact HI5.out.keep (fun pp h1 h2 _ => World.cell?_of_block (HG7.out.block pp.block h2 (fun e => by have := Option.some.inj e; omega))) HG7.out.size (fun k hk => .inl hk)
                  case measure =>
                    have m2 := HP7.out.next
                    rw [HNX.out, m2]
                    omega
                · have b2' : isM (tk ts E j1) 44 = false := by simpa using b2
                  rw [b2', if_neg (by decide)] at hM2
                  have HR6 := Lib.hid (show R = .bad (tk ts E j1).2.2.2 50 by have h := HRN.out; unfold gL at h; rw [if_neg b1, if_neg (by decide), if_neg b2] at h; exact h)
                  have HM2 := Lib.hid hM2; clear hM2 hp6 hr6 b1 b1' b2 b2'
                  go_wp2_with fail
                  refine HM2.out.mono ?_
                  rintro e w7 ⟨rfl, hg7, hp7⟩
                  have hFL := fail_any pb vL ts E j1 q1 0 50 w7 hp7 (RdT_fr HRT5.out (Nat.le_of_lt hlt5) (Fr.trans HG6.out hg7))
                  have HFL := Lib.hid hFL; clear hFL hp7
                  have HG7 := Lib.hid (Fr.trans HG6.out hg7); clear hg7
                  go_wp2_with fail
                  refine HFL.out.mono ?_
                  rintro e w8 ⟨rfl, hg8, hp8⟩
                  have HG8 := Lib.hid (Fr.trans HG7.out hg8); clear hg8
                  have HP8 := Lib.hid hp8; clear hp8
                  unfold zeroV
                  go_wp2_with fail
                  go_roundw
                  case rel =>
                    exact ⟨n + 1, j1, q1, .slice (some ⟨g, 0, none⟩) (n + 1) cap, cs ++ [.int .i64 k3, .int .i64 n3, .string s3, .slice A3 l3 c3, .slice B3 m3 d3], _, _, HP8.out, Fr.trans HG5.out HG8.out, blk_fr HG8.out (by omega) (by omega) HZ5.out, blk_fr HG8.out (by omega) (by omega) HV5.out, HO5.out.kept HG8.out (.inr (own_ne HO5.out (by omega))), by omega, by omega, .inr ⟨by decide, HR6.out⟩⟩
                  case measure =>
                    have m2 := HP8.out.next
                    rw [HNX.out, m2]
                    omega
      · have hyn : (y == 0) = false := by rw [beq_eq_false_iff_ne]; exact hy
        obtain ⟨z0, z1, z2, z3, z4⟩ := cells5 hz
        obtain ⟨qz0, qz1, qz2, qz3, qz4⟩ := frozen5 hz
        obtain ⟨x0, x1, x2, x3, x4⟩ := cells5 hv
        have HZF := Lib.hid hz; clear hz
        have HVF := Lib.hid hv; clear hv
        have HPR := Lib.hid hpr; clear hpr
        have HG := Lib.hid hgr; clear hgr
        have HRB := Lib.hid hR1; clear hR1
        go_wp2_with fail
        have hn : w.heap.size ≠ pb := by omega
        have R5 := set5_row HZF.out (.int .i64 5) (.int .i64 0) (.string ⟨#[]⟩) (.slice A n c) (.slice none 0 0)
        have P5 := set5_prs HPR.out hn (.int .i64 5) (.int .i64 0) (.string ⟨#[]⟩) (.slice A n c) (.slice none 0 0)
        have F5 := set5_fr (HG.out) (Nat.le_refl _) (.int .i64 5) (.int .i64 0) (.string ⟨#[]⟩) (.slice A n c) (.slice none 0 0)
        refine bodyPost_ret (results5 rfl rfl R5) rfl ?_
        rw [HRB.out]
        exact ⟨F5, _, _, _, _, _, _, _, _, _, rfl, _, _, P5⟩
end Go.Proofs.YtoflogckoepioaaDoor.Re
