/- Merged: FoM. -/
import Derived.Test.YtjbaogoapobhbaaDoorTt20
import Derived.Laws.MakeOwn
namespace Go.Proofs.YtjbaogoapobhbaaDoor.Fo
open Go.Proofs Go.RowKit Go.Shelf
open Go.Proofs.YtjbaogoapobhbaaDoor.Utf
open Go.Proofs.YtjbaogoapobhbaaDoor.Sc
open Go.Proofs.YtjbaogoapobhbaaDoor.Po
open Go.Proofs.YtjbaogoapobhbaaDoor.Wo (Tl)
attribute [local go_sem] Oper.semAt_some

theorem take_low1 (xs : List (List UInt8)) (k : Nat) (hk : k < xs.length) : strC ((xs.take (k + 1)).map low) = strC ((xs.take k).map low) ++ [.string (strOf (low xs[k]))] := by
  rw [List.take_succ_eq_append_getElem hk, List.map_append]; simp [strC]
theorem elem_of {W : World} {B n : Nat} {v : Value} {ys : List (List UInt8)} (h : W.ownsRow B 9 1 v n (strC ys)) (hn : ys.length = n) :
    ∃ A c, v = .slice A n c ∧ ∀ i (hi : i < ys.length), ∃ b off : Nat, A = some ⟨b, off, none⟩ ∧ b < W.heap.size ∧ W.cell? ⟨b, off + i, none⟩ = some (.string (strOf ys[i])) := by
  rcases h.2 with ⟨rfl, h0⟩ | ⟨g, cap, cur, rfl, hb, hg, hc1, hc2, hc3, hx⟩
  · refine ⟨none, 0, by rw [h0], fun i hi => by omega⟩
  · refine ⟨some ⟨g, 0, none⟩, cap, rfl, fun i hi => ⟨g, 0, rfl, (Array.getElem?_eq_some_iff.1 hg).1, ?_⟩⟩
    have h2 : (strC ys)[i]? = some (.string (strOf ys[i])) := by simp [strC, hi]
    rw [← hx, List.getElem?_take] at h2
    split at h2
    · rw [Nat.zero_add]
      simp only [World.cell?, hg]
      simpa using h2
    · cases h2
theorem any_range (ys : List (List UInt8)) (f : List UInt8 → Bool) : (List.range ys.length).any (fun i => f (ys.getD i [])) = ys.any f := by
  rw [Bool.eq_iff_iff, List.any_eq_true, List.any_eq_true]
  constructor
  · rintro ⟨i, hi, h⟩
    have hi2 := List.mem_range.1 hi
    rw [List.getD_eq_getElem?_getD, List.getElem?_eq_getElem hi2] at h
    exact ⟨_, List.getElem_mem hi2, h⟩
  · rintro ⟨x, hx, h⟩
    obtain ⟨i, hi, rfl⟩ := List.getElem_of_mem hx
    exact ⟨i, List.mem_range.2 hi, by rw [List.getD_eq_getElem?_getD, List.getElem?_eq_getElem hi]; exact h⟩
def noPan (Q : Exit → Act → World → Prop) : Exit → Act → World → Prop
  | .panic _, _, _ => False
  | .outgrown, _, _ => False
  | .normal, a, w => Q .normal a w
  | .ret, a, w => Q .ret a w
  | .exit i, a, w => Q (.exit i) a w
  | .goto i, a, w => Q (.goto i) a w
theorem noPan_of (Q : Exit → Act → World → Prop) : ∀ e a w, noPan Q e a w → Q e a w
  | .panic _, _, _, h => h.elim
  | .outgrown, _, _, h => h.elim
  | .normal, _, _, h => h
  | .ret, _, _, h => h
  | .exit _, _, _, h => h
  | .goto _, _, _, h => h
set_option maxRecDepth 100000 in
set_option maxHeartbeats 4000000 in
theorem pMatch_any (q : ByteArray) (tv : Value) (xs : List (List UInt8)) (w : World) (hv : Rd w w.heap.size tv (strC xs)) (hq : q.size < 4294967281) (hn : xs.length ≤ 4398046511104) (hx : ∀ x ∈ xs, x.length ≤ 140737488355328)
    (hm : (Mx w ∧ ∀ x ∈ xs, x.length < 4294967281) ∨ ∀ t ∈ tms q.data.toList, t.length = 1) :
    Calls Tryd.prog 19 #[.string q, tv] w (Gives (.bool (matS q.data.toList xs)) w) := by
  refine (callsIn_wide (n := 6)).1 ?_
  refine callsIn_of_wp_marks Tryd.func19 rfl trivial ?_ rfl
  simp only [Tryd.ntmps19, List.size_toArray, List.length_cons, List.length_nil, Nat.reduceAdd, Nat.reduceSub, Array.replicate_succ, Array.replicate_zero, List.push_toArray, List.append_toArray, List.nil_append, List.cons_append]
  refine wpIn_wide.2 (wp_mono ?_ (noPan_of _))
  obtain ⟨i0, hi, hz0, hz1, hz2⟩ := info_parts infoS16
  obtain ⟨n, hnn⟩ : ∃ n, xs.length = n := ⟨_, rfl⟩
  obtain ⟨A, c, rfl, hA⟩ := hv
  have hlc : (strC xs).length = n := by rw [strC_len, hnn]
  rw [hlc] at hA ⊢
  have HA := Lib.hid (fun (k : Nat) (hk : k < xs.length) => show ∃ ad : Addr, A = some ad ∧ ad.block < w.heap.size ∧ w.cell? (ad.add k) = some (.string (strOf xs[k])) by
    obtain ⟨ad, e, hb, hc⟩ := hA (by omega)
    exact ⟨ad, e, hb, hc k _ (by simp [strC, hk])⟩)
  have HNN := Lib.hid hnn
  have HX := Lib.hid hx
  have HM := Lib.hid hm
  rw [hnn] at hn
  clear hA hlc hnn hx hm
  obtain ⟨M, hM⟩ : ∃ M, M = madeCells (Value.string ByteArray.empty).cells (((n : Nat) : Int).toNat * i0.size) := ⟨_, rfl⟩
  have hMs : M.size = n := by rw [hM, size_madeCells, hz1]; simp
  have hmk : ∀ W : World, (Instr.makeSlice 26 (.int .i64 0) (.int .i64 (n : Int))).run Tryd.prog W = .ok (.slice (some ⟨W.heap.size, 0, none⟩) 0 n) (W.alloc (.cells M 9)) := fun W => by
    have h := run_make (P := Tryd.prog) W 26 9 i0 (.string ByteArray.empty) Tryd.underlying26 hi hz0 .i64 .i64 0 (n : Int) (by omega) (by omega) (by rw [hz2]; omega) (by omega)
    rw [← hM] at h
    simpa using h
  clear hM
  go_wp2_with fail
  have HQ3 := Lib.hid (show Boxed (((w.alloc (.cells #[.bool false] 4)).alloc (.cells M 9)).alloc (.cells #[.slice (some ⟨w.heap.size + 1, 0, none⟩) 0 n] 26)) w.heap.size 4 (.bool false) from ((Boxed.new w 4 (.bool false)).alloc _).alloc _)
  have HV3 := Lib.hid (show Boxed (((w.alloc (.cells #[.bool false] 4)).alloc (.cells M 9)).alloc (.cells #[.slice (some ⟨w.heap.size + 1, 0, none⟩) 0 n] 26)) (w.heap.size + 1 + 1) 26 (.slice (some ⟨w.heap.size + 1, 0, none⟩) 0 n) from by
    have h := Boxed.new ((w.alloc (.cells #[.bool false] 4)).alloc (.cells M 9)) 26 (.slice (some ⟨w.heap.size + 1, 0, none⟩) 0 n)
    rwa [World.size_alloc, World.size_alloc] at h)
  have HO3 := Lib.hid (show (((w.alloc (.cells #[.bool false] 4)).alloc (.cells M 9)).alloc (.cells #[.slice (some ⟨w.heap.size + 1, 0, none⟩) 0 n] 26)).ownsRow w.heap.size 9 1 (.slice (some ⟨w.heap.size + 1, 0, none⟩) 0 n) 0 [] from by
    have h := World.ownsRow_made (w.alloc (.cells #[.bool false] 4)) M n (base := w.heap.size) (e := 9) (size := 1) (by simp) (by unfold maxLen; omega) (by omega)
    rw [World.size_alloc] at h
    exact h.alloc _)
  have HB3 := Lib.hid (show Below w.heap.size w (((w.alloc (.cells #[.bool false] 4)).alloc (.cells M 9)).alloc (.cells #[.slice (some ⟨w.heap.size + 1, 0, none⟩) 0 n] 26)) from (((Below.refl _ w).alloc (Nat.le_refl _) _).alloc (by simp) _).alloc (by simp; omega) _)
  generalize ((w.alloc (.cells #[.bool false] 4)).alloc (.cells M 9)).alloc (.cells #[.slice (some ⟨w.heap.size + 1, 0, none⟩) 0 n] 26) = W3 at *
  clear hmk hMs
  go_loopw [7, 15] (fun _ i wr => ∃ k : Nat, i = .int .i64 (k : Int) ∧ k ≤ n ∧ Aside (Boxed wr w.heap.size 4 (.bool false)) ∧ Aside (∃ v, Boxed wr (w.heap.size + 1 + 1) 26 v ∧ wr.ownsRow w.heap.size 9 1 v k (strC ((xs.take k).map low))) ∧ Aside (Below w.heap.size w wr)) (fun _ i _ => n - (intOf i).toNat)
  case atStart => exact ⟨0, rfl, by omega, HQ3.out, (show ∃ v, _ from ⟨_, HV3.out, HO3.out⟩), HB3.out⟩
  case round =>
    obtain ⟨k, rfl, hk, hqb, ⟨v, hvb, hrow⟩, hbel⟩ := hrel
    have HQ := Lib.hid hqb.out
    have HV := Lib.hid hvb
    have HR := Lib.hid hrow
    have HBR := Lib.hid hbel.out
    clear hqb hrow hbel
    by_cases hlt : k < n
    · have t1 : decide ((k : Int) < (n : Int)) = true := decide_eq_true (by omega)
      have t2 : decide (k < n) = true := decide_eq_true hlt
      have k0 : (0 : Int) ≤ (k : Int) := by omega
      have k1 : (k : Int) < (n : Int) := by omega
      have k2 : ((k : Int)).toNat = k := by omega
      have hkx : k < xs.length := by rw [HNN.out]; exact hlt
      obtain ⟨ad, hadr, hab, hcell⟩ := HA.out k hkx
      subst hadr
      have hce := (HBR.out.cell (p := ad.add k) (by rw [blk_add]; exact hab)).trans hcell
      have HC := Lib.hid (fun W => pFold_any (strOf xs[k]) W (by rw [strOf_size]; exact HX.out _ (List.getElem_mem hkx)))
      rw [strOf_data] at HC
      have HTK := Lib.hid (take_low1 xs k hkx)
      have hc := hvb.cell
      generalize strOf (low xs[k]) = Z at *
      generalize strOf xs[k] = Y at *
      clear hkx hcell hab hvb
      go_wp2_with fail
      -- moves
      refine wp_region_held_drew (S := fun _ => True) (by kernel_rfl) trivial (fun _ => ?_)
      refine wpAnyH_take (i := 1) (oi := { dst := some 20, op := Op.move (Operand.tmp 7), type := 9, pos := "fold.go:56", after := #[], guard := none }) (v := ?_) rfl (by kernel_rfl) (by kernel_rfl) (by kernel_rfl) (fun _ _ _ h => h) (Or.inl ⟨by rfl, ?_⟩) trivial ?_
      rotate_left
      · intro w hSw; (try dsimp only at hSw); go_simp; with_reducible rfl
      try simp only [Act.put, List.setIfInBounds_toArray, List.set_cons_zero, List.set_cons_succ]
      refine wpAnyH_ready (rs := [0, 2]) (by kernel_rfl) (by simp) ?_
      refine AllReadyH.cons (o := { dst := some 19, op := Op.load 26 (Operand.tmp 5), type := 26, pos := "fold.go:56", after := #[], guard := none }) rfl (fun K hK => ?_) (AllReadyH.cons (o := { dst := some 21, op := Op.call { callee := Callee.value (Operand.func 10), args := #[Operand.tmp 20], argTypes := #[9] }, type := 9, pos := "fold.go:56", after := #[{ on := 1, ground := Ground.data }], guard := none }) rfl (fun K hK => ?_) AllReadyH.nil)
      · go_simp
        refine hK.out _ _ trivial (fun _ => ?_)
        clear hK K
        try simp only [Act.put, List.setIfInBounds_toArray, List.set_cons_zero, List.set_cons_succ]
        refine wpAnyH_ready (rs := [2]) (by kernel_rfl) (by simp) ?_
        refine AllReadyH.cons (o := { dst := some 21, op := Op.call { callee := Callee.value (Operand.func 10), args := #[Operand.tmp 20], argTypes := #[9] }, type := 9, pos := "fold.go:56", after := #[{ on := 1, ground := Ground.data }], guard := none }) rfl (fun K hK => ?_) AllReadyH.nil
        go_simp
        refine (HC.out _).mono ?_
        rintro e w2 ⟨rfl, hb2⟩
        refine hK.out _ _ trivial (fun _ => ?_)
        clear hK K
        try simp only [Act.put, List.setIfInBounds_toArray, List.set_cons_zero, List.set_cons_succ]
        have HB2 := Lib.hid (show Below wr.heap.size wr w2 from (drew_below wr).trans hb2)
        have HV2 := Lib.hid (show Boxed w2 (w.heap.size + 1 + 1) 26 v from (HB2.out.block _ HV.out.lt).trans HV.out)
        have HR2 := Lib.hid (own_below HR.out HB2.out)
        have hc2 := HV2.out.cell
        clear hb2
        refine wpAnyH_ready (rs := [3]) (by kernel_rfl) (by simp) ?_
        refine AllReadyH.cons (o := { dst := some 22, op := Op.buildSlice 26 1 #[(0, Operand.tmp 21)], type := 26, pos := "fold.go:56", after := #[{ on := 2, ground := Ground.data }], guard := none }) rfl (fun K hK => ?_) AllReadyH.nil
        go_simp
        refine hK.out _ _ trivial (fun _ => ?_)
        clear hK K
        try simp only [Act.put, List.setIfInBounds_toArray, List.set_cons_zero, List.set_cons_succ]
        obtain ⟨U, hU⟩ : ∃ U, U = w2.alloc (.cells #[.string Z] 9) := ⟨_, rfl⟩
        rw [← hU]
        have HU := Lib.hid hU
        have hcU : U.cell? ⟨w.heap.size + 1 + 1, 0, none⟩ = some v := by rw [hU]; exact (HV2.out.alloc _).cell
        have HOU := Lib.hid (show U.ownsRow w.heap.size 9 1 v k (strC ((xs.take k).map low)) by rw [hU]; exact HR2.out.alloc _)
        have HCU := Lib.hid (show ∀ (j : Nat) (u : Value), [Value.string Z][j]? = some u → U.cell? ((⟨w2.heap.size, 0, none⟩ : Addr).add j) = some u by rw [hU]; exact cells_new _ _ _)
        have HSU := Lib.hid (show w.heap.size ≤ U.heap.size by rw [hU]; simp; have := HB2.out.size; have := HBR.out.size; omega)
        clear hU
        refine wpAnyH_ready (rs := [4]) (by kernel_rfl) (by simp) ?_
        refine AllReadyH.cons (o := { dst := some 23, op := Op.call { callee := Callee.builtin Builtin.append, args := #[Operand.tmp 19, Operand.tmp 22], argTypes := #[26, 26] }, type := 26, pos := "fold.go:56", after := #[{ on := 0, ground := Ground.data }, { on := 3, ground := Ground.data }, { on := 2, ground := Ground.chain }], guard := none }) rfl (fun K hK => ?_) AllReadyH.nil
        refine wp_append_lies _ _ _ _ rfl w.heap.size 9 i0 _ 1 16 Tryd.underlying26 hi hz0 hz1 hz2 rfl (by decide) v k (strC ((xs.take k).map low)) rfl HOU.out ⟨w2.heap.size, 0, none⟩ 1 1 [.string Z] rfl rfl HCU.out (by intro u hu; simp at hu; subst hu; rfl) (by omega) (by unfold maxLen; omega) (by omega) HSU.out _ rfl ?_
        intro g cap w4 hown4 hg4 _ _
        rw [HU.out] at hg4
        refine hK.out _ _ trivial (fun _ => ?_)
        clear hK K
        try simp only [Act.put, List.setIfInBounds_toArray, List.set_cons_zero, List.set_cons_succ]
        have ⟨hv4, hv5, hr5, hk5, hb5⟩ := HV2.out.appended (by decide) HR2.out (by have := HB2.out.size; have := HBR.out.size; omega) (by omega) hown4 hg4
        have hc4 := hv4.cell
        have hf4 := hv4.frozen
        have HB5 := Lib.hid (HBR.out.trans ((HB2.out.mono HBR.out.size).trans hb5))
        have HV5 := Lib.hid hv5
        have HR5 := Lib.hid hr5
        have HQ5 := Lib.hid (show Boxed (w4.setCell ⟨w.heap.size + 1 + 1, 0, none⟩ (.slice (some ⟨g, 0, none⟩) (k + 1) cap)) w.heap.size 4 (.bool false) from by
          have h2 : Boxed w2 w.heap.size 4 (.bool false) := (HB2.out.block _ HQ.out.lt).trans HQ.out
          exact ((h2.alloc _).kept hg4 (h2.not_row (by decide) HR2.out)).kept (grownBy_setCell' w4 _ _) (fun e => by injection e with e; omega))
        clear hown4 hg4 hv4 hv5 hr5 hk5 hb5
        refine wpAnyH_ready (rs := [5]) (by kernel_rfl) (by simp) ?_
        refine AllReadyH.cons (o := { dst := none, op := Op.store 26 (Operand.tmp 5) (Operand.tmp 23), type := 0, pos := "fold.go:56", after := #[{ on := 4, ground := Ground.data }, { on := 4, ground := Ground.chain }, { on := 0, ground := Ground.phase }, { on := 1, ground := Ground.phase }, { on := 2, ground := Ground.phase }, { on := 3, ground := Ground.phase }, { on := 4, ground := Ground.phase }], guard := none }) rfl (fun K hK => ?_) AllReadyH.nil
        go_simp
        refine hK.out _ _ trivial (fun _ => ?_)
        clear hK K
        try simp only [Act.put, List.setIfInBounds_toArray, List.set_cons_zero, List.set_cons_succ]
        refine wpAnyH_done (by kernel_rfl) ?_ _
        go_wp2_with fail
        go_roundw
        case rel => exact ⟨k + 1, by go_num, by omega, HQ5.out, (show ∃ v, _ from ⟨_, HV5.out, by rw [HTK.out]; exact HR5.out⟩), HB5.out⟩
        case measure => simp [intOf]; omega
      · go_simp
        refine (HC.out _).mono ?_
        rintro e w2 ⟨rfl, hb2⟩
        refine hK.out _ _ trivial (fun _ => ?_)
        clear hK K
        try simp only [Act.put, List.setIfInBounds_toArray, List.set_cons_zero, List.set_cons_succ]
        have HB2 := Lib.hid (show Below wr.heap.size wr w2 from (drew_below wr).trans hb2)
        have HV2 := Lib.hid (show Boxed w2 (w.heap.size + 1 + 1) 26 v from (HB2.out.block _ HV.out.lt).trans HV.out)
        have HR2 := Lib.hid (own_below HR.out HB2.out)
        have hc2 := HV2.out.cell
        clear hb2
        refine wpAnyH_ready (rs := [0, 3]) (by kernel_rfl) (by simp) ?_
        refine AllReadyH.cons (o := { dst := some 19, op := Op.load 26 (Operand.tmp 5), type := 26, pos := "fold.go:56", after := #[], guard := none }) rfl (fun K hK => ?_) (AllReadyH.cons (o := { dst := some 22, op := Op.buildSlice 26 1 #[(0, Operand.tmp 21)], type := 26, pos := "fold.go:56", after := #[{ on := 2, ground := Ground.data }], guard := none }) rfl (fun K hK => ?_) AllReadyH.nil)
        · go_simp
          refine hK.out _ _ trivial (fun _ => ?_)
          clear hK K
          try simp only [Act.put, List.setIfInBounds_toArray, List.set_cons_zero, List.set_cons_succ]
          refine wpAnyH_ready (rs := [3]) (by kernel_rfl) (by simp) ?_
          refine AllReadyH.cons (o := { dst := some 22, op := Op.buildSlice 26 1 #[(0, Operand.tmp 21)], type := 26, pos := "fold.go:56", after := #[{ on := 2, ground := Ground.data }], guard := none }) rfl (fun K hK => ?_) AllReadyH.nil
          go_simp
          refine hK.out _ _ trivial (fun _ => ?_)
          clear hK K
          try simp only [Act.put, List.setIfInBounds_toArray, List.set_cons_zero, List.set_cons_succ]
          obtain ⟨U, hU⟩ : ∃ U, U = w2.alloc (.cells #[.string Z] 9) := ⟨_, rfl⟩
          rw [← hU]
          have HU := Lib.hid hU
          have hcU : U.cell? ⟨w.heap.size + 1 + 1, 0, none⟩ = some v := by rw [hU]; exact (HV2.out.alloc _).cell
          have HOU := Lib.hid (show U.ownsRow w.heap.size 9 1 v k (strC ((xs.take k).map low)) by rw [hU]; exact HR2.out.alloc _)
          have HCU := Lib.hid (show ∀ (j : Nat) (u : Value), [Value.string Z][j]? = some u → U.cell? ((⟨w2.heap.size, 0, none⟩ : Addr).add j) = some u by rw [hU]; exact cells_new _ _ _)
          have HSU := Lib.hid (show w.heap.size ≤ U.heap.size by rw [hU]; simp; have := HB2.out.size; have := HBR.out.size; omega)
          clear hU
          refine wpAnyH_ready (rs := [4]) (by kernel_rfl) (by simp) ?_
          refine AllReadyH.cons (o := { dst := some 23, op := Op.call { callee := Callee.builtin Builtin.append, args := #[Operand.tmp 19, Operand.tmp 22], argTypes := #[26, 26] }, type := 26, pos := "fold.go:56", after := #[{ on := 0, ground := Ground.data }, { on := 3, ground := Ground.data }, { on := 2, ground := Ground.chain }], guard := none }) rfl (fun K hK => ?_) AllReadyH.nil
          refine wp_append_lies _ _ _ _ rfl w.heap.size 9 i0 _ 1 16 Tryd.underlying26 hi hz0 hz1 hz2 rfl (by decide) v k (strC ((xs.take k).map low)) rfl HOU.out ⟨w2.heap.size, 0, none⟩ 1 1 [.string Z] rfl rfl HCU.out (by intro u hu; simp at hu; subst hu; rfl) (by omega) (by unfold maxLen; omega) (by omega) HSU.out _ rfl ?_
          intro g cap w4 hown4 hg4 _ _
          rw [HU.out] at hg4
          refine hK.out _ _ trivial (fun _ => ?_)
          clear hK K
          try simp only [Act.put, List.setIfInBounds_toArray, List.set_cons_zero, List.set_cons_succ]
          have ⟨hv4, hv5, hr5, hk5, hb5⟩ := HV2.out.appended (by decide) HR2.out (by have := HB2.out.size; have := HBR.out.size; omega) (by omega) hown4 hg4
          have hc4 := hv4.cell
          have hf4 := hv4.frozen
          have HB5 := Lib.hid (HBR.out.trans ((HB2.out.mono HBR.out.size).trans hb5))
          have HV5 := Lib.hid hv5
          have HR5 := Lib.hid hr5
          have HQ5 := Lib.hid (show Boxed (w4.setCell ⟨w.heap.size + 1 + 1, 0, none⟩ (.slice (some ⟨g, 0, none⟩) (k + 1) cap)) w.heap.size 4 (.bool false) from by
            have h2 : Boxed w2 w.heap.size 4 (.bool false) := (HB2.out.block _ HQ.out.lt).trans HQ.out
            exact ((h2.alloc _).kept hg4 (h2.not_row (by decide) HR2.out)).kept (grownBy_setCell' w4 _ _) (fun e => by injection e with e; omega))
          clear hown4 hg4 hv4 hv5 hr5 hk5 hb5
          refine wpAnyH_ready (rs := [5]) (by kernel_rfl) (by simp) ?_
          refine AllReadyH.cons (o := { dst := none, op := Op.store 26 (Operand.tmp 5) (Operand.tmp 23), type := 0, pos := "fold.go:56", after := #[{ on := 4, ground := Ground.data }, { on := 4, ground := Ground.chain }, { on := 0, ground := Ground.phase }, { on := 1, ground := Ground.phase }, { on := 2, ground := Ground.phase }, { on := 3, ground := Ground.phase }, { on := 4, ground := Ground.phase }], guard := none }) rfl (fun K hK => ?_) AllReadyH.nil
          go_simp
          refine hK.out _ _ trivial (fun _ => ?_)
          clear hK K
          try simp only [Act.put, List.setIfInBounds_toArray, List.set_cons_zero, List.set_cons_succ]
          refine wpAnyH_done (by kernel_rfl) ?_ _
          go_wp2_with fail
          go_roundw
          case rel => exact ⟨k + 1, by go_num, by omega, HQ5.out, (show ∃ v, _ from ⟨_, HV5.out, by rw [HTK.out]; exact HR5.out⟩), HB5.out⟩
          case measure => simp [intOf]; omega
        · go_simp
          refine hK.out _ _ trivial (fun _ => ?_)
          clear hK K
          try simp only [Act.put, List.setIfInBounds_toArray, List.set_cons_zero, List.set_cons_succ]
          obtain ⟨U, hU⟩ : ∃ U, U = w2.alloc (.cells #[.string Z] 9) := ⟨_, rfl⟩
          rw [← hU]
          have HU := Lib.hid hU
          have hcU : U.cell? ⟨w.heap.size + 1 + 1, 0, none⟩ = some v := by rw [hU]; exact (HV2.out.alloc _).cell
          have HOU := Lib.hid (show U.ownsRow w.heap.size 9 1 v k (strC ((xs.take k).map low)) by rw [hU]; exact HR2.out.alloc _)
          have HCU := Lib.hid (show ∀ (j : Nat) (u : Value), [Value.string Z][j]? = some u → U.cell? ((⟨w2.heap.size, 0, none⟩ : Addr).add j) = some u by rw [hU]; exact cells_new _ _ _)
          have HSU := Lib.hid (show w.heap.size ≤ U.heap.size by rw [hU]; simp; have := HB2.out.size; have := HBR.out.size; omega)
          clear hU
          refine wpAnyH_ready (rs := [0]) (by kernel_rfl) (by simp) ?_
          refine AllReadyH.cons (o := { dst := some 19, op := Op.load 26 (Operand.tmp 5), type := 26, pos := "fold.go:56", after := #[], guard := none }) rfl (fun K hK => ?_) AllReadyH.nil
          go_simp
          refine hK.out _ _ trivial (fun _ => ?_)
          clear hK K
          try simp only [Act.put, List.setIfInBounds_toArray, List.set_cons_zero, List.set_cons_succ]
          refine wpAnyH_ready (rs := [4]) (by kernel_rfl) (by simp) ?_
          refine AllReadyH.cons (o := { dst := some 23, op := Op.call { callee := Callee.builtin Builtin.append, args := #[Operand.tmp 19, Operand.tmp 22], argTypes := #[26, 26] }, type := 26, pos := "fold.go:56", after := #[{ on := 0, ground := Ground.data }, { on := 3, ground := Ground.data }, { on := 2, ground := Ground.chain }], guard := none }) rfl (fun K hK => ?_) AllReadyH.nil
          refine wp_append_lies _ _ _ _ rfl w.heap.size 9 i0 _ 1 16 Tryd.underlying26 hi hz0 hz1 hz2 rfl (by decide) v k (strC ((xs.take k).map low)) rfl HOU.out ⟨w2.heap.size, 0, none⟩ 1 1 [.string Z] rfl rfl HCU.out (by intro u hu; simp at hu; subst hu; rfl) (by omega) (by unfold maxLen; omega) (by omega) HSU.out _ rfl ?_
          intro g cap w4 hown4 hg4 _ _
          rw [HU.out] at hg4
          refine hK.out _ _ trivial (fun _ => ?_)
          clear hK K
          try simp only [Act.put, List.setIfInBounds_toArray, List.set_cons_zero, List.set_cons_succ]
          have ⟨hv4, hv5, hr5, hk5, hb5⟩ := HV2.out.appended (by decide) HR2.out (by have := HB2.out.size; have := HBR.out.size; omega) (by omega) hown4 hg4
          have hc4 := hv4.cell
          have hf4 := hv4.frozen
          have HB5 := Lib.hid (HBR.out.trans ((HB2.out.mono HBR.out.size).trans hb5))
          have HV5 := Lib.hid hv5
          have HR5 := Lib.hid hr5
          have HQ5 := Lib.hid (show Boxed (w4.setCell ⟨w.heap.size + 1 + 1, 0, none⟩ (.slice (some ⟨g, 0, none⟩) (k + 1) cap)) w.heap.size 4 (.bool false) from by
            have h2 : Boxed w2 w.heap.size 4 (.bool false) := (HB2.out.block _ HQ.out.lt).trans HQ.out
            exact ((h2.alloc _).kept hg4 (h2.not_row (by decide) HR2.out)).kept (grownBy_setCell' w4 _ _) (fun e => by injection e with e; omega))
          clear hown4 hg4 hv4 hv5 hr5 hk5 hb5
          refine wpAnyH_ready (rs := [5]) (by kernel_rfl) (by simp) ?_
          refine AllReadyH.cons (o := { dst := none, op := Op.store 26 (Operand.tmp 5) (Operand.tmp 23), type := 0, pos := "fold.go:56", after := #[{ on := 4, ground := Ground.data }, { on := 4, ground := Ground.chain }, { on := 0, ground := Ground.phase }, { on := 1, ground := Ground.phase }, { on := 2, ground := Ground.phase }, { on := 3, ground := Ground.phase }, { on := 4, ground := Ground.phase }], guard := none }) rfl (fun K hK => ?_) AllReadyH.nil
          go_simp
          refine hK.out _ _ trivial (fun _ => ?_)
          clear hK K
          try simp only [Act.put, List.setIfInBounds_toArray, List.set_cons_zero, List.set_cons_succ]
          refine wpAnyH_done (by kernel_rfl) ?_ _
          go_wp2_with fail
          go_roundw
          case rel => exact ⟨k + 1, by go_num, by omega, HQ5.out, (show ∃ v, _ from ⟨_, HV5.out, by rw [HTK.out]; exact HR5.out⟩), HB5.out⟩
          case measure => simp [intOf]; omega
      -- end of moves
    · have t1 : decide ((k : Int) < (n : Int)) = false := decide_eq_false (by omega)
      have t2 : decide (k < n) = false := decide_eq_false hlt
      obtain rfl : k = n := by omega
      rw [show xs.take k = xs by rw [← HNN.out, List.take_length]] at HR
      have hFl : (xs.map low).length = xs.length := List.length_map ..
      have HF := Lib.hid hFl
      have C1 := Lib.hid (fun W => pFold_any q W (by omega))
      have HXS := Lib.hid (show (strOf (low q.data.toList)).size < 4294967281 by rw [strOf_size, low_len, len_data]; exact hq)
      have HTM := Lib.hid (show tms (strOf (low q.data.toList)).data.toList = (tms q.data.toList).map low by rw [strOf_data, tms_low])
      generalize strOf (low q.data.toList) = X at *
      clear hFl hvb
      go_wp2_with fail
      refine (C1.out _).mono ?_
      rintro e w1 ⟨rfl, hb1⟩
      have HB1 := Lib.hid hb1
      clear hb1
      go_wp2_with fail
      refine ((callsIn_wide (n := 0)).1 (terms_in 0 X _)).mono ?_
      rintro e w2 ⟨rfl, rfl⟩
      go_wp2_with fail
      have hsz : (w1.alloc (.cells #[.string X] 9)).heap.size = w1.heap.size + 1 := by simp
      have hBr := HBR.out
      have hB1 := HB1.out
      have hs1 : w.heap.size ≤ wr.heap.size := hBr.size
      have hs2 : wr.heap.size ≤ w1.heap.size := hB1.size
      have hbx : (w1.alloc (.cells #[.string X] 9)).cell? ⟨w1.heap.size, 0, none⟩ = some (.string X) := (Boxed.new w1 9 (.string X)).cell
      have hq0 : Boxed (w1.alloc (.cells #[.string X] 9)) w.heap.size 4 (.bool false) := Boxed.alloc (show Boxed w1 w.heap.size 4 (.bool false) from (hB1.block _ HQ.out.lt).trans HQ.out) _
      have hv0 : Boxed (w1.alloc (.cells #[.string X] 9)) (w.heap.size + 1 + 1) 26 v := Boxed.alloc (show Boxed w1 (w.heap.size + 1 + 1) 26 v from (hB1.block _ HV.out.lt).trans HV.out) _
      have hr0 := (own_below HR.out hB1).alloc (.cells #[.string X] 9)
      have hb0 : Below w.heap.size w (w1.alloc (.cells #[.string X] 9)) := (hBr.trans (hB1.mono hs1)).alloc (by omega) _
      generalize w1.alloc (.cells #[.string X] 9) = W0 at hsz hbx hq0 hv0 hr0 hb0 ⊢
      obtain ⟨okT, hok⟩ : ∃ okT : List UInt8 → Bool, okT = fun t => (xs.map low).any fun x => hasL x t := ⟨_, rfl⟩
      have HOK := Lib.hid hok
      clear hok
      refine (wpIn_wide (n := 6)).1 ?_
      refine wpIn_rangeFunc_ownH rfl (by omega) (gf := 33) (lb := #[.pointer (some ⟨w1.heap.size, 0, none⟩)]) rfl trivial (enters_of Tryd.func33 (by kernel_rfl) rfl)
        (terms_stops _ w1.heap.size X HXS.out W0 (by omega) hbx) (fun _ _ => trivial) (fun _ _ _ _ _ _ _ _ => trivial) (Below.refl _ _) (fun _ => rfl)
        (fun pre W => (Boxed W w.heap.size 4 (.bool false) ∧ ∃ v', Boxed W (w.heap.size + 1 + 1) 26 v' ∧ W.ownsRow w.heap.size 9 1 v' k (strC (xs.map low)) ∧ True) ∧ ((Below w.heap.size w W ∧ W0.heap.size ≤ W.heap.size) ∧ ∀ t ∈ vals pre, okT t = true))
        (fun c pre W => c = .ret ∧ (Boxed W w.heap.size 4 (.bool false) ∧ (Below w.heap.size w W ∧ ∃ t ∈ vals pre, okT t = false)))
        (OwnFrom.and (OwnFrom.and (Own.from (boxed_own w.heap.size 4 (fun _ => .bool false)) _) (Own.from (holdsRow_own w.heap.size (w.heap.size + 1 + 1) 26 9 1 (fun _ : List (T1 X.data.toList) => k) (fun _ => strC (xs.map low)) (fun _ _ => True)) _)) (OwnFrom.and (OwnFrom.and (ownFrom_below (Nat.le_refl _) (by omega)) (fun s X Y row hs hg hr => Nat.le_trans hs hg.size)) (ownFrom_pure _ _)))
        (fun c => OwnFrom.and (ownFrom_pure _ (fun _ => c = .ret)) (OwnFrom.and (Own.from (boxed_own w.heap.size 4 (fun _ => .bool false)) _) (OwnFrom.and (ownFrom_below (Nat.le_refl _) (by omega)) (ownFrom_pure _ _))))
        ⟨⟨hq0, _, hv0, hr0, trivial⟩, ⟨hb0, Nat.le_refl _⟩, fun t ht => by simp [vals] at ht⟩
        (fun x a' W => ∃ Bx : Nat, Boxed W Bx 9 (.string (strOf x.1)) ∧ a' = { tmps := #[.string q, .slice A k c, undef, undef, .pointer (some ⟨w.heap.size, 0, none⟩), .pointer (some ⟨w.heap.size + 1 + 1, 0, none⟩), undef, u7, .pointer (some ⟨Bx, 0, none⟩), undef, .slice A k c, .int .i64 k, .slice (some ⟨w.heap.size + 1, 0, none⟩) 0 k, .slice A k c, .int .i64 k, .int .i64 k, .bool false, u17, u18, u19, u20, u21, u22, u23, u24, .string q, .string X, .func (.func 33) #[] #[.pointer (some ⟨w1.heap.size, 0, none⟩)], .string (strOf x.1), undef, undef, undef, undef, undef], defers := [] })
        (fun x a' s Y Z row hs hg hr => by
          obtain ⟨Bx, e2, e3⟩ := hs
          exact ⟨Bx, boxed_own (β := Unit) Bx 9 (fun _ => .string (strOf x.1)) () Y Z row e2 hg (fun r e => (hr r e).2), e3⟩) ?assign ?body ?done ?stop
      case assign =>
        rintro l pre x W K hI hK
        have HK := Lib.hid hK
        have HI := Lib.hid hI
        clear hK hI
        simp only [encT]
        gi_wp2
        obtain ⟨⟨i1, v', i2, i3, -⟩, ⟨i4, i5⟩, i6⟩ := HI.out
        exact HK.out _ _ ((KeepsOthers.alloc _ _).from _) trivial ⟨⟨i1.alloc _, v', i2.alloc _, i3.alloc _, trivial⟩, ⟨i4.alloc i4.size _, by simp; omega⟩, i6⟩ ⟨W.heap.size, Boxed.new W _ _, rfl⟩
      case body =>
        rintro l pre x a' W hl - ⟨⟨i1, v', i2, i3, -⟩, ⟨i4, i5⟩, i6⟩ ⟨Bx, hbBx, rfl⟩ hlt2
        obtain ⟨A', c', rfl, hel⟩ := elem_of i3 (by rw [List.length_map, HNN.out])
        have hc2 := i2.cell
        have hE : ElemS W A' k 28 #[.pointer (some ⟨Bx, 0, none⟩)] (fun i => hasL ((xs.map low).getD i []) x.1) := fun i hi W2 hW2 => by
          have hil : i < (xs.map low).length := by rw [List.length_map, HNN.out]; exact hi
          obtain ⟨b, off, e1, e2, e3⟩ := hel i hil
          refine ⟨b, off, _, e1, (hW2.cell (p := ⟨b, off + i, none⟩) e2).trans e3, ?_⟩
          show Calls _ _ _ W2 (Tl (hasL ((xs.map low).getD i []) x.1) W2)
          rw [List.getD_eq_getElem?_getD, List.getElem?_eq_getElem hil]
          refine match1_any _ _ W2 Bx ((hW2.cell (p := ⟨Bx, 0, none⟩) hbBx.lt).trans hbBx.cell) ?_
          rcases HM.out with ⟨m1, m2⟩ | m
          · refine .inl ⟨?_, m1.keep (i4.trans (hW2.mono i4.size))⟩
            rw [List.getElem_map, low_len]
            exact m2 _ (List.getElem_mem _)
          · refine .inr ?_
            have hxm : x.1 ∈ (tms q.data.toList).map low := by
              have h := x.2.2
              generalize x.1 = y at h ⊢
              rw [HTM.out] at h
              exact h
            obtain ⟨t, ht, e⟩ := List.mem_map.1 hxm
            rw [← e, low_len]
            exact m t ht
        have HCC := Lib.hid (ContainsS_any A' k c' (by omega) 28 #[.pointer (some ⟨Bx, 0, none⟩)] _ W (enters_of Tryd.func28 (by kernel_rfl) rfl) hE)
        rw [show (List.range k).any (fun i => hasL ((xs.map low).getD i []) x.1) = okT x.1 by
          rw [HOK.out]
          have := any_range (xs.map low) (fun y => hasL y x.1)
          rw [List.length_map, HNN.out] at this
          exact this] at HCC
        have I1 := Lib.hid i1
        have I2 := Lib.hid i2
        have I3 := Lib.hid i3
        have I4 := Lib.hid i4
        have I6 := Lib.hid i6
        clear hE hel i1 i2 i3 i4 i6 hbBx hl hlt2
        obtain ⟨z, hz⟩ : ∃ z, okT x.1 = z := ⟨_, rfl⟩
        rw [hz] at HCC
        have HZ := Lib.hid hz
        clear hz
        gi_wp2
        refine ⟨trivial, ?_⟩
        refine (calls_wide HCC.out).mono ?_
        rintro e w3 ⟨rfl, hb3⟩
        have HB3 := Lib.hid hb3
        have J1 := Lib.hid (show Boxed w3 w.heap.size 4 (.bool false) from (hb3.block _ I1.out.lt).trans I1.out)
        have hc3 := J1.out.cell
        have hf3 := J1.out.frozen
        clear hb3
        cases z with
        | true =>
          gi_wp2
          have hb3 := HB3.out
          refine ⟨(kept_below hb3).from _, trivial, ⟨J1.out, _, (hb3.block _ I2.out.lt).trans I2.out, own_below I3.out hb3, trivial⟩, ⟨I4.out.trans (hb3.mono I4.out.size), Nat.le_trans i5 hb3.size⟩, fun t ht => ?_⟩
          rw [vals_app, List.mem_append] at ht
          rcases ht with ht | ht
          · exact I6.out t ht
          · rw [List.mem_singleton] at ht
            rw [ht]; exact HZ.out
        | false =>
          gi_wp2
          have hb3 := HB3.out
          exact ⟨((kept_below hb3).trans (KeepsOthers.setCell _ _ _)).from _, rfl, J1.out.set _, (I4.out.trans (hb3.mono I4.out.size)).setCell (p := ⟨w.heap.size, 0, none⟩) (Nat.le_refl _) _, x.1, by rw [vals_app]; simp, HZ.out⟩
      case done =>
        rintro D ys W hD hvs ⟨⟨i1, -⟩, ⟨i4, i5⟩, i6⟩ hK
        have hres : matS q.data.toList xs = true := by
          unfold matS
          rw [List.all_eq_true]
          intro t ht
          have h := i6 (low t) (by rw [hvs, HTM.out]; exact List.mem_map_of_mem ht)
          rw [HOK.out] at h
          have h2 : ((xs.map low).any fun x => hasL x (low t)) = true := h
          rw [List.any_map] at h2
          exact h2
        have HRES := Lib.hid hres
        have hc := i1.cell
        have hf := i1.frozen
        have I4 := Lib.hid i4
        have HK := Lib.hid hK
        clear i1 i4 hK i6 hvs hres
        go_wp2_with fail
        have hk := (KeepsOthers.setCell W ⟨w.heap.size, 0, none⟩ (.bool true)).same D _ HK.out rfl
        refine (show bodyPostM Fence.wide 6 Tryd.prog Tryd.f19 _ .ret _ _ from ⟨by simp, .inl ⟨_, _, rfl, run_takeDeferred hk, ?_⟩⟩)
        have hc5 := cell_kept (World.cell?_setCell_same' W ⟨w.heap.size, 0, none⟩ (.bool true) (by rw [hc]; rfl)) (grownBy_putObj' _ D (.deferred none)) (fun r e => by cases e; exact ⟨_, hk, rfl⟩)
        refine ⟨.bool true, ?_, by rw [HRES.out], (I4.out.setCell (p := ⟨w.heap.size, 0, none⟩) (Nat.le_refl _) _).trans (belowK_b (w := w) (Nat.le_refl _) _ D _ _ (by have := hb0.size; omega) hk rfl rfl)⟩
        simp [results, Tryd.f19, go_sem, hc5]
      case stop =>
        rintro D c pre W hD ⟨rest, hSp⟩ ⟨rfl, i1, i4, t, ht, hno⟩ hK
        have hres : matS q.data.toList xs = false := by
          have hSp2 := HTM.out.symm.trans hSp
          have hm2 : t ∈ (tms q.data.toList).map low := by rw [hSp2]; exact List.mem_append_left _ ht
          obtain ⟨t0, h0, e⟩ := List.mem_map.1 hm2
          unfold matS
          rw [List.all_eq_false]
          refine ⟨t0, h0, ?_⟩
          rw [HOK.out] at hno
          have h2 : ((xs.map low).any fun x => hasL x t) = false := hno
          rw [List.any_map, ← e] at h2
          have h3 : (xs.any fun x => hasL (low x) (low t0)) = false := h2
          rw [h3]; simp
        rw [hres]
        have hc := i1.cell
        have HK := Lib.hid hK
        have I4 := Lib.hid i4
        clear i4 hK hres hSp ht hno
        gi_wp2
        have hk := HK.out
        refine (show bodyPostM Fence.wide 6 Tryd.prog Tryd.f19 _ .ret _ _ from ⟨by simp, .inl ⟨_, _, rfl, run_takeDeferred hk, ?_⟩⟩)
        have hc5 := cell_kept hc (grownBy_putObj' W D (.deferred none)) (fun r e => by cases e; exact ⟨_, hk, rfl⟩)
        refine ⟨.bool false, ?_, rfl, I4.out.trans (belowK_b (w := w) (Nat.le_refl _) W D _ _ (by have := hb0.size; omega) hk rfl rfl)⟩
        simp [results, Tryd.f19, go_sem, hc5]
end Go.Proofs.YtjbaogoapobhbaaDoor.Fo
