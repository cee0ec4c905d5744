/- Merged: FoY FoZ. -/
import Derived.Test.YtjbaogoapobhbaaDoorTt19
import Derived.Test.YtjbaogoapobhbaaDoorTt12
import Derived.Test.YtjbaogoapobhbaaDoorTt4
import Derived.Deep.AppendLies
import Derived.RangeFuncBox
import Derived.Test.YtjbaogoapobhbaaDoorTt8
namespace Go.Proofs.YtjbaogoapobhbaaDoor.Fo
open Go.Proofs Go.RowKit Go.Shelf
open Go.Proofs.YtjbaogoapobhbaaDoor.Utf
open Go.Proofs.YtjbaogoapobhbaaDoor.Sc
open Go.Proofs.YtjbaogoapobhbaaDoor.Po
attribute [local go_sem] Oper.semAt_some

theorem drew_below (w : World) : Below w.heap.size w w.drew := ⟨rfl, rfl, rfl, Nat.le_refl _, fun _ _ => rfl⟩
theorem kept_below {W W' : World} (h : Below W.heap.size W W') : KeepsOthers W W' := ⟨h.size, fun k _ hk _ => (h.block k (Array.getElem?_eq_some_iff.1 hk).1).trans hk⟩
theorem vals_app {L : List UInt8} (pre : List (T1 L)) (x : T1 L) : vals (pre ++ [x]) = vals pre ++ [x.1] := by simp [vals]
theorem strC_app (l : List (List UInt8)) (x : List UInt8) : strC (l ++ [x]) = strC l ++ [.string (strOf x)] := by simp [strC]
theorem infoS16 : (Tryd.prog.info? 9).map (fun i => (i.zero, i.size, i.bytes)) = some (some (.string ByteArray.empty), 1, 16) := by kernel_rfl
set_option maxRecDepth 100000 in
set_option maxHeartbeats 4000000 in
theorem pTerms_any (s : ByteArray) (w : World) (hs : s.size < 4294967281) : Calls Tryd.prog 17 #[.string s] w (GivesTs (tms s.data.toList) w) := by
  refine (callsIn_wide (n := 5)).1 ?_
  refine callsIn_of_wp_marks Tryd.func17 rfl trivial ?_ rfl
  simp only [Tryd.ntmps17, List.size_toArray, List.length_cons, List.length_nil, Nat.reduceAdd, Nat.reduceSub, Array.replicate_succ, Array.replicate_zero, List.push_toArray, List.append_toArray, List.nil_append, List.cons_append]
  obtain ⟨i0, hi, hz0, hz1, hz2⟩ := info_parts infoS16
  have HLEN := Lib.hid (show (tms s.data.toList).length ≤ s.size + 1 by have := trm_len s.data.toList 0 []; rw [len_data] at this; exact this)
  gi_wp2
  refine ⟨trivial, ?_⟩
  refine (terms_in _ s _).mono ?_
  rintro e w' ⟨rfl, rfl⟩
  gi_wp2
  have hsz : ((w.alloc (.cells #[.slice none 0 0] 26)).alloc (.cells #[.string s] 9)).heap.size = w.heap.size + 2 := by simp
  have hb1 : Boxed ((w.alloc (.cells #[.slice none 0 0] 26)).alloc (.cells #[.string s] 9)) w.heap.size 26 (.slice none 0 0) := (Boxed.new w 26 (.slice none 0 0)).alloc _
  have hb2 : ((w.alloc (.cells #[.slice none 0 0] 26)).alloc (.cells #[.string s] 9)).cell? ⟨w.heap.size + 1, 0, none⟩ = some (.string s) := by
    have := (Boxed.new (w.alloc (.cells #[.slice none 0 0] 26)) 9 (.string s)).cell
    simp only [World.size_alloc] at this
    exact this
  have hBw : Below w.heap.size w ((w.alloc (.cells #[.slice none 0 0] 26)).alloc (.cells #[.string s] 9)) := ((Below.refl _ w).alloc (Nat.le_refl _) _).alloc (by simp) _
  generalize (w.alloc (.cells #[.slice none 0 0] 26)).alloc (.cells #[.string s] 9) = W0 at hsz hb1 hb2 hBw ⊢
  refine wpIn_rangeFunc_ownH rfl (by omega) (gf := 33) (lb := #[.pointer (some ⟨w.heap.size + 1, 0, none⟩)]) rfl trivial (enters_of Tryd.func33 (by kernel_rfl) rfl)
    (terms_stops _ (w.heap.size + 1) s hs W0 (by omega) hb2) (fun _ _ => trivial) (fun _ _ _ _ _ _ _ _ => trivial) (Below.refl _ _) (fun _ => rfl)
    (fun pre W => (∃ v, Boxed W w.heap.size 26 v ∧ W.ownsRow w.heap.size 9 1 v pre.length (strC (vals pre)) ∧ True) ∧ (Below w.heap.size w W ∧ w.heap.size + 2 ≤ W.heap.size))
    (fun _ _ _ => False)
    (OwnFrom.and (Own.from (holdsRow_own w.heap.size w.heap.size 26 9 1 (fun pre : List (T1 s.data.toList) => pre.length) (fun pre => strC (vals pre)) (fun _ _ => True)) _) (OwnFrom.and (ownFrom_below (Nat.le_refl _) (by omega)) (fun s X Y row hs hg hr => Nat.le_trans hs hg.size)))
    (fun _ _ _ _ _ hs _ _ => hs)
    ⟨⟨_, hb1, World.ownsRow_nil _ _ _ _, trivial⟩, hBw, by omega⟩
    (fun x a' _ => a' = { tmps := #[.string s, undef, .slice none 0 0, .pointer (some ⟨w.heap.size, 0, none⟩), .string (strOf x.1), .string s, .func (.func 33) #[] #[.pointer (some ⟨w.heap.size + 1, 0, none⟩)], .string (strOf x.1), undef, undef, undef, undef, undef, undef], defers := [] })
    (fun x a' _ _ _ _ hs _ _ => hs) ?assign ?body ?done ?stop
  case assign =>
    rintro l pre x W K hI hK
    have HK := Lib.hid hK
    have HI := Lib.hid hI
    clear hK hI
    simp only [encT]
    gi_wp2
    exact HK.out _ _ ⟨Nat.le_refl _, fun _ _ _ h _ => h⟩ trivial HI.out rfl
  case body =>
    rintro l pre x a' W hl - ⟨⟨v, hv, hrow, -⟩, hB, hS⟩ rfl hlt
    have hc := hv.cell
    have HC := Lib.hid (fun W' => clone_any (strOf x.1) W' (by have := x.2.1; rw [strOf_size]; omega))
    have HV := Lib.hid hv
    have HR := Lib.hid hrow
    have HB := Lib.hid hB
    have hpl : pre.length ≤ 4294967281 := by have := HLEN.out; omega
    clear hv hrow hB hl hlt
    gi_wp2
    -- moves
    refine wpIn_region_held_round (S := fun _ => True) (by kernel_rfl) (by kernel_rfl) (fun _ _ h => h) trivial (fun _ => ?_)
    refine wpAnyH_take (i := 1) (oi := { dst := some 9, op := Op.move (Operand.tmp 4), type := 9, pos := "fold.go:46", after := #[], guard := none }) (v := ?_) rfl (by kernel_rfl) (by kernel_rfl) (by kernel_rfl) (fun _ _ _ h => h) (Or.inl ⟨by rfl, ?_⟩) trivial ?_
    rotate_left
    · intro w hSw; (try dsimp only at hSw); go_simp; with_reducible rfl
    try simp only [Act.put, List.setIfInBounds_toArray, List.set_cons_zero, List.set_cons_succ]
    refine wpAnyH_ready (rs := [0, 2]) (by kernel_rfl) (by simp) ?_
    refine AllReadyH.cons (o := { dst := some 8, op := Op.load 26 (Operand.tmp 3), type := 26, pos := "fold.go:46", after := #[], guard := none }) rfl (fun K hK => ?_) (AllReadyH.cons (o := { dst := some 10, op := Op.call { callee := Callee.value (Operand.func 27), args := #[Operand.tmp 9], argTypes := #[9] }, type := 9, pos := "fold.go:46", after := #[{ on := 1, ground := Ground.data }], guard := none }) rfl (fun K hK => ?_) AllReadyH.nil)
    · go_simp
      refine hK.out _ _ trivial (fun _ => ?_)
      clear hK K
      try simp only [Act.put, List.setIfInBounds_toArray, List.set_cons_zero, List.set_cons_succ]
      refine wpAnyH_ready (rs := [2]) (by kernel_rfl) (by simp) ?_
      refine AllReadyH.cons (o := { dst := some 10, op := Op.call { callee := Callee.value (Operand.func 27), args := #[Operand.tmp 9], argTypes := #[9] }, type := 9, pos := "fold.go:46", after := #[{ on := 1, ground := Ground.data }], guard := none }) rfl (fun K hK => ?_) AllReadyH.nil
      go_simp
      refine (HC.out _).mono ?_
      rintro e w2 ⟨rfl, hb2⟩
      refine hK.out _ _ trivial (fun _ => ?_)
      clear hK K
      try simp only [Act.put, List.setIfInBounds_toArray, List.set_cons_zero, List.set_cons_succ]
      have HB2 := Lib.hid (show Below W.heap.size W w2 from (drew_below W).trans hb2)
      have HV2 := Lib.hid (show Boxed w2 w.heap.size 26 v from (HB2.out.block _ HV.out.lt).trans HV.out)
      have HR2 := Lib.hid (own_below HR.out HB2.out)
      have hc2 := HV2.out.cell
      clear hb2
      refine wpAnyH_ready (rs := [3]) (by kernel_rfl) (by simp) ?_
      refine AllReadyH.cons (o := { dst := some 11, op := Op.buildSlice 26 1 #[(0, Operand.tmp 10)], type := 26, pos := "fold.go:46", after := #[{ on := 2, ground := Ground.data }], guard := none }) rfl (fun K hK => ?_) AllReadyH.nil
      go_simp
      refine hK.out _ _ trivial (fun _ => ?_)
      clear hK K
      try simp only [Act.put, List.setIfInBounds_toArray, List.set_cons_zero, List.set_cons_succ]
      obtain ⟨U, hU⟩ : ∃ U, U = w2.alloc (.cells #[.string (strOf x.1)] 9) := ⟨_, rfl⟩
      rw [← hU]
      have HU := Lib.hid hU
      have hcU : U.cell? ⟨w.heap.size, 0, none⟩ = some v := by rw [hU]; exact (HV2.out.alloc _).cell
      have HOU := Lib.hid (show U.ownsRow w.heap.size 9 1 v pre.length (strC (vals pre)) by rw [hU]; exact HR2.out.alloc _)
      have HCU := Lib.hid (show ∀ (j : Nat) (u : Value), [Value.string (strOf x.1)][j]? = some u → U.cell? ((⟨w2.heap.size, 0, none⟩ : Addr).add j) = some u by rw [hU]; exact cells_new _ _ _)
      have HSU := Lib.hid (show w.heap.size ≤ U.heap.size by rw [hU]; simp; have := HB2.out.size; omega)
      clear hU
      refine wpAnyH_ready (rs := [4]) (by kernel_rfl) (by simp) ?_
      refine AllReadyH.cons (o := { dst := some 12, op := Op.call { callee := Callee.builtin Builtin.append, args := #[Operand.tmp 8, Operand.tmp 11], argTypes := #[26, 26] }, type := 26, pos := "fold.go:46", after := #[{ on := 0, ground := Ground.data }, { on := 3, ground := Ground.data }, { on := 2, ground := Ground.chain }], guard := none }) rfl (fun K hK => ?_) AllReadyH.nil
      refine wp_append_lies _ _ _ _ rfl w.heap.size 9 i0 _ 1 16 Tryd.underlying26 hi hz0 hz1 hz2 rfl (by decide) v pre.length (strC (vals pre)) rfl HOU.out ⟨w2.heap.size, 0, none⟩ 1 1 [.string (strOf x.1)] rfl rfl HCU.out (by intro u hu; simp at hu; subst hu; rfl) (by omega) (by unfold maxLen; omega) (by omega) HSU.out _ rfl ?_
      intro g cap w4 hown4 hg4 _ _
      rw [HU.out] at hg4
      refine hK.out _ _ trivial (fun _ => ?_)
      clear hK K
      try simp only [Act.put, List.setIfInBounds_toArray, List.set_cons_zero, List.set_cons_succ]
      have ⟨hv4, hv5, hr5, hk5, hb5⟩ := HV2.out.appended (by decide) HR2.out (by have := HB2.out.size; omega) (Nat.le_refl _) hown4 hg4
      have hc4 := hv4.cell
      have hf4 := hv4.frozen
      have HE := Lib.hid (show w.heap.size ≤ W.heap.size ∧ True from ⟨by omega, trivial⟩)
      have H5 := Lib.hid (And.intro hv5 (And.intro hr5 (And.intro hk5 hb5)))
      clear hown4 hg4 hv4 hv5 hr5 hk5 hb5
      refine wpAnyH_ready (rs := [5]) (by kernel_rfl) (by simp) ?_
      refine AllReadyH.cons (o := { dst := none, op := Op.store 26 (Operand.tmp 3) (Operand.tmp 12), type := 0, pos := "fold.go:46", after := #[{ on := 4, ground := Ground.data }, { on := 4, ground := Ground.chain }, { on := 0, ground := Ground.phase }, { on := 1, ground := Ground.phase }, { on := 2, ground := Ground.phase }, { on := 3, ground := Ground.phase }, { on := 4, ground := Ground.phase }], guard := none }) rfl (fun K hK => ?_) AllReadyH.nil
      go_simp
      refine hK.out _ _ trivial (fun _ => ?_)
      clear hK K
      try simp only [Act.put, List.setIfInBounds_toArray, List.set_cons_zero, List.set_cons_succ]
      refine wpAnyH_done (by kernel_rfl) ?_ _
      obtain ⟨hv5, hr5, hk5, hb5⟩ := H5.out
      exact ⟨((kept_below HB2.out).trans hk5).from _, trivial, ⟨_, hv5, by rw [vals_app, strC_app, List.length_append]; exact hr5, trivial⟩, HB.out.trans ((HB2.out.mono (by omega)).trans hb5), Nat.le_trans hS (Nat.le_trans HB2.out.size hb5.size)⟩
    · go_simp
      refine (HC.out _).mono ?_
      rintro e w2 ⟨rfl, hb2⟩
      refine hK.out _ _ trivial (fun _ => ?_)
      clear hK K
      try simp only [Act.put, List.setIfInBounds_toArray, List.set_cons_zero, List.set_cons_succ]
      have HB2 := Lib.hid (show Below W.heap.size W w2 from (drew_below W).trans hb2)
      have HV2 := Lib.hid (show Boxed w2 w.heap.size 26 v from (HB2.out.block _ HV.out.lt).trans HV.out)
      have HR2 := Lib.hid (own_below HR.out HB2.out)
      have hc2 := HV2.out.cell
      clear hb2
      refine wpAnyH_ready (rs := [0, 3]) (by kernel_rfl) (by simp) ?_
      refine AllReadyH.cons (o := { dst := some 8, op := Op.load 26 (Operand.tmp 3), type := 26, pos := "fold.go:46", after := #[], guard := none }) rfl (fun K hK => ?_) (AllReadyH.cons (o := { dst := some 11, op := Op.buildSlice 26 1 #[(0, Operand.tmp 10)], type := 26, pos := "fold.go:46", after := #[{ on := 2, ground := Ground.data }], guard := none }) rfl (fun K hK => ?_) AllReadyH.nil)
      · go_simp
        refine hK.out _ _ trivial (fun _ => ?_)
        clear hK K
        try simp only [Act.put, List.setIfInBounds_toArray, List.set_cons_zero, List.set_cons_succ]
        refine wpAnyH_ready (rs := [3]) (by kernel_rfl) (by simp) ?_
        refine AllReadyH.cons (o := { dst := some 11, op := Op.buildSlice 26 1 #[(0, Operand.tmp 10)], type := 26, pos := "fold.go:46", after := #[{ on := 2, ground := Ground.data }], guard := none }) rfl (fun K hK => ?_) AllReadyH.nil
        go_simp
        refine hK.out _ _ trivial (fun _ => ?_)
        clear hK K
        try simp only [Act.put, List.setIfInBounds_toArray, List.set_cons_zero, List.set_cons_succ]
        obtain ⟨U, hU⟩ : ∃ U, U = w2.alloc (.cells #[.string (strOf x.1)] 9) := ⟨_, rfl⟩
        rw [← hU]
        have HU := Lib.hid hU
        have hcU : U.cell? ⟨w.heap.size, 0, none⟩ = some v := by rw [hU]; exact (HV2.out.alloc _).cell
        have HOU := Lib.hid (show U.ownsRow w.heap.size 9 1 v pre.length (strC (vals pre)) by rw [hU]; exact HR2.out.alloc _)
        have HCU := Lib.hid (show ∀ (j : Nat) (u : Value), [Value.string (strOf x.1)][j]? = some u → U.cell? ((⟨w2.heap.size, 0, none⟩ : Addr).add j) = some u by rw [hU]; exact cells_new _ _ _)
        have HSU := Lib.hid (show w.heap.size ≤ U.heap.size by rw [hU]; simp; have := HB2.out.size; omega)
        clear hU
        refine wpAnyH_ready (rs := [4]) (by kernel_rfl) (by simp) ?_
        refine AllReadyH.cons (o := { dst := some 12, op := Op.call { callee := Callee.builtin Builtin.append, args := #[Operand.tmp 8, Operand.tmp 11], argTypes := #[26, 26] }, type := 26, pos := "fold.go:46", after := #[{ on := 0, ground := Ground.data }, { on := 3, ground := Ground.data }, { on := 2, ground := Ground.chain }], guard := none }) rfl (fun K hK => ?_) AllReadyH.nil
        refine wp_append_lies _ _ _ _ rfl w.heap.size 9 i0 _ 1 16 Tryd.underlying26 hi hz0 hz1 hz2 rfl (by decide) v pre.length (strC (vals pre)) rfl HOU.out ⟨w2.heap.size, 0, none⟩ 1 1 [.string (strOf x.1)] rfl rfl HCU.out (by intro u hu; simp at hu; subst hu; rfl) (by omega) (by unfold maxLen; omega) (by omega) HSU.out _ rfl ?_
        intro g cap w4 hown4 hg4 _ _
        rw [HU.out] at hg4
        refine hK.out _ _ trivial (fun _ => ?_)
        clear hK K
        try simp only [Act.put, List.setIfInBounds_toArray, List.set_cons_zero, List.set_cons_succ]
        have ⟨hv4, hv5, hr5, hk5, hb5⟩ := HV2.out.appended (by decide) HR2.out (by have := HB2.out.size; omega) (Nat.le_refl _) hown4 hg4
        have hc4 := hv4.cell
        have hf4 := hv4.frozen
        have HE := Lib.hid (show w.heap.size ≤ W.heap.size ∧ True from ⟨by omega, trivial⟩)
        have H5 := Lib.hid (And.intro hv5 (And.intro hr5 (And.intro hk5 hb5)))
        clear hown4 hg4 hv4 hv5 hr5 hk5 hb5
        refine wpAnyH_ready (rs := [5]) (by kernel_rfl) (by simp) ?_
        refine AllReadyH.cons (o := { dst := none, op := Op.store 26 (Operand.tmp 3) (Operand.tmp 12), type := 0, pos := "fold.go:46", after := #[{ on := 4, ground := Ground.data }, { on := 4, ground := Ground.chain }, { on := 0, ground := Ground.phase }, { on := 1, ground := Ground.phase }, { on := 2, ground := Ground.phase }, { on := 3, ground := Ground.phase }, { on := 4, ground := Ground.phase }], guard := none }) rfl (fun K hK => ?_) AllReadyH.nil
        go_simp
        refine hK.out _ _ trivial (fun _ => ?_)
        clear hK K
        try simp only [Act.put, List.setIfInBounds_toArray, List.set_cons_zero, List.set_cons_succ]
        refine wpAnyH_done (by kernel_rfl) ?_ _
        obtain ⟨hv5, hr5, hk5, hb5⟩ := H5.out
        exact ⟨((kept_below HB2.out).trans hk5).from _, trivial, ⟨_, hv5, by rw [vals_app, strC_app, List.length_append]; exact hr5, trivial⟩, HB.out.trans ((HB2.out.mono (by omega)).trans hb5), Nat.le_trans hS (Nat.le_trans HB2.out.size hb5.size)⟩
      · go_simp
        refine hK.out _ _ trivial (fun _ => ?_)
        clear hK K
        try simp only [Act.put, List.setIfInBounds_toArray, List.set_cons_zero, List.set_cons_succ]
        obtain ⟨U, hU⟩ : ∃ U, U = w2.alloc (.cells #[.string (strOf x.1)] 9) := ⟨_, rfl⟩
        rw [← hU]
        have HU := Lib.hid hU
        have hcU : U.cell? ⟨w.heap.size, 0, none⟩ = some v := by rw [hU]; exact (HV2.out.alloc _).cell
        have HOU := Lib.hid (show U.ownsRow w.heap.size 9 1 v pre.length (strC (vals pre)) by rw [hU]; exact HR2.out.alloc _)
        have HCU := Lib.hid (show ∀ (j : Nat) (u : Value), [Value.string (strOf x.1)][j]? = some u → U.cell? ((⟨w2.heap.size, 0, none⟩ : Addr).add j) = some u by rw [hU]; exact cells_new _ _ _)
        have HSU := Lib.hid (show w.heap.size ≤ U.heap.size by rw [hU]; simp; have := HB2.out.size; omega)
        clear hU
        refine wpAnyH_ready (rs := [0]) (by kernel_rfl) (by simp) ?_
        refine AllReadyH.cons (o := { dst := some 8, op := Op.load 26 (Operand.tmp 3), type := 26, pos := "fold.go:46", after := #[], guard := none }) rfl (fun K hK => ?_) AllReadyH.nil
        go_simp
        refine hK.out _ _ trivial (fun _ => ?_)
        clear hK K
        try simp only [Act.put, List.setIfInBounds_toArray, List.set_cons_zero, List.set_cons_succ]
        refine wpAnyH_ready (rs := [4]) (by kernel_rfl) (by simp) ?_
        refine AllReadyH.cons (o := { dst := some 12, op := Op.call { callee := Callee.builtin Builtin.append, args := #[Operand.tmp 8, Operand.tmp 11], argTypes := #[26, 26] }, type := 26, pos := "fold.go:46", after := #[{ on := 0, ground := Ground.data }, { on := 3, ground := Ground.data }, { on := 2, ground := Ground.chain }], guard := none }) rfl (fun K hK => ?_) AllReadyH.nil
        refine wp_append_lies _ _ _ _ rfl w.heap.size 9 i0 _ 1 16 Tryd.underlying26 hi hz0 hz1 hz2 rfl (by decide) v pre.length (strC (vals pre)) rfl HOU.out ⟨w2.heap.size, 0, none⟩ 1 1 [.string (strOf x.1)] rfl rfl HCU.out (by intro u hu; simp at hu; subst hu; rfl) (by omega) (by unfold maxLen; omega) (by omega) HSU.out _ rfl ?_
        intro g cap w4 hown4 hg4 _ _
        rw [HU.out] at hg4
        refine hK.out _ _ trivial (fun _ => ?_)
        clear hK K
        try simp only [Act.put, List.setIfInBounds_toArray, List.set_cons_zero, List.set_cons_succ]
        have ⟨hv4, hv5, hr5, hk5, hb5⟩ := HV2.out.appended (by decide) HR2.out (by have := HB2.out.size; omega) (Nat.le_refl _) hown4 hg4
        have hc4 := hv4.cell
        have hf4 := hv4.frozen
        have HE := Lib.hid (show w.heap.size ≤ W.heap.size ∧ True from ⟨by omega, trivial⟩)
        have H5 := Lib.hid (And.intro hv5 (And.intro hr5 (And.intro hk5 hb5)))
        clear hown4 hg4 hv4 hv5 hr5 hk5 hb5
        refine wpAnyH_ready (rs := [5]) (by kernel_rfl) (by simp) ?_
        refine AllReadyH.cons (o := { dst := none, op := Op.store 26 (Operand.tmp 3) (Operand.tmp 12), type := 0, pos := "fold.go:46", after := #[{ on := 4, ground := Ground.data }, { on := 4, ground := Ground.chain }, { on := 0, ground := Ground.phase }, { on := 1, ground := Ground.phase }, { on := 2, ground := Ground.phase }, { on := 3, ground := Ground.phase }, { on := 4, ground := Ground.phase }], guard := none }) rfl (fun K hK => ?_) AllReadyH.nil
        go_simp
        refine hK.out _ _ trivial (fun _ => ?_)
        clear hK K
        try simp only [Act.put, List.setIfInBounds_toArray, List.set_cons_zero, List.set_cons_succ]
        refine wpAnyH_done (by kernel_rfl) ?_ _
        obtain ⟨hv5, hr5, hk5, hb5⟩ := H5.out
        exact ⟨((kept_below HB2.out).trans hk5).from _, trivial, ⟨_, hv5, by rw [vals_app, strC_app, List.length_append]; exact hr5, trivial⟩, HB.out.trans ((HB2.out.mono (by omega)).trans hb5), Nat.le_trans hS (Nat.le_trans HB2.out.size hb5.size)⟩
    -- end of moves
  case done =>
    rintro D ys W hD hvs ⟨⟨v, hv, hrow, -⟩, hB, hS⟩ hK
    have hc := hv.cell
    have HR := Lib.hid hrow
    have HB := Lib.hid hB
    have HK := Lib.hid hK
    have HN := Lib.hid (show ys.length = (tms s.data.toList).length by rw [← hvs]; simp [vals])
    rw [hvs] at HR
    clear hv hrow hB hK hvs
    gi_wp2
    have hk := HK.out
    refine ⟨by simp, .inl ⟨_, _, rfl, run_takeDeferred hk, ?_⟩⟩
    refine ⟨_, results_tmp rfl _ _ _, v, rfl, ?_, HB.out.trans (belowK_b (w := w) (Nat.le_refl _) W D _ _ (by omega) hk rfl rfl)⟩
    have ho := ownsRow_putObj HR.out (.deferred none) hk rfl
    rw [HN.out] at ho
    exact ho
  case stop =>
    rintro D c pre W _ _ h _
    exact h.elim
end Go.Proofs.YtjbaogoapobhbaaDoor.Fo
namespace Go.Proofs.YtjbaogoapobhbaaDoor.Fo
open Go.Proofs Go.RowKit
open Go.Proofs.YtjbaogoapobhbaaDoor.Utf
open Go.Proofs.YtjbaogoapobhbaaDoor.Sc
open Go.Proofs.YtjbaogoapobhbaaDoor.Po
open Go.Proofs.YtjbaogoapobhbaaDoor.Wo (Tl)

def ElemS (w : World) (A : Option Addr) (len : Nat) (f : FuncId) (caps : Array Value) (q : Nat → Bool) : Prop :=
  ∀ i, i < len → ∀ W, Below w.heap.size w W → ∃ (b off : Nat) (x : ByteArray), A = some ⟨b, off, none⟩ ∧ W.cell? ⟨b, off + i, none⟩ = some (.string x) ∧
    Calls Tryd.prog f (#[.string x] ++ caps) W (Tl (q i) W)
set_option maxRecDepth 100000 in
set_option maxHeartbeats 4000000 in
theorem IndexS_any (A : Option Addr) (len cap : Nat) (hreach : len < 4611686018427387904) (f : FuncId) (caps : Array Value) (q : Nat → Bool) (w : World)
    (en : ∀ args w, (callFunc f args).run Tryd.prog w = .ok (.enter f args) w) (hE : ElemS w A len f caps q) :
    Calls Tryd.prog 36 #[.slice A len cap, .func (.func f) #[] caps] w fun e w' => ∃ r : Int, e = .returned (.int .i64 r) ∧ decide (0 ≤ r) = (List.range len).any q ∧ Below w.heap.size w w' := by
  have HE : Aside _ := hE
  clear hE
  go_enter Tryd.func36, Tryd.ntmps36
  go_wp2_with fail
  go_loopw [8] (fun i wr => ∃ k : Nat, i = .int .i64 k ∧ k ≤ len ∧ Aside (∀ j, j < k → q j = false) ∧ Aside (Below w.heap.size w wr)) (fun i _ => len - (intOf i).toNat)
  case atStart => exact ⟨0, rfl, by omega, (show ∀ _ _, _ from fun j hj => by omega), (show Below _ _ _ from Below.refl _ _)⟩
  case round =>
    obtain ⟨k, rfl, hk, hne, hbel⟩ := hrel
    by_cases hlt : k < len
    · have t1 : decide ((k : Int) < (len : Int)) = true := decide_eq_true (by omega)
      have t2 : decide (k < len) = true := decide_eq_true hlt
      have k0 : (0 : Int) ≤ (k : Int) := by omega
      have k1 : (k : Int) < (len : Int) := by omega
      have k2 : ((k : Int)).toNat = k := by omega
      obtain ⟨b, off, x, rfl, a0, hcon⟩ := HE.out k hlt wr hbel.out
      have HC := Lib.hid hcon
      clear hcon
      obtain ⟨z, hz⟩ : ∃ z, q k = z := ⟨_, rfl⟩
      have HZ := Lib.hid hz
      rw [hz] at HC
      clear hz
      cases z with
      | true =>
        go_wp2_with fail
        refine HC.out.mono ?_
        rintro e w1 ⟨rfl, hb1⟩
        have HB1 := Lib.hid (hbel.out.trans (hb1.mono hbel.out.size))
        clear hb1
        go_wp2_with fail
        go_ret
        exact ⟨(k : Int), rfl, by rw [decide_eq_true k0]; exact (List.any_eq_true.2 ⟨k, List.mem_range.2 hlt, HZ.out⟩).symm, HB1.out⟩
      | false =>
        go_wp2_with fail
        refine HC.out.mono ?_
        rintro e w1 ⟨rfl, hb1⟩
        have HB1 := Lib.hid (hbel.out.trans (hb1.mono hbel.out.size))
        clear hb1
        go_wp2_with fail
        go_roundw
        case rel =>
          refine ⟨k + 1, by go_num, by omega, ?_, HB1.out⟩
          refine (show ∀ _ _, _ from fun j hj => ?_)
          rcases Nat.lt_or_ge j k with c | c
          · exact hne.out j c
          · obtain rfl : j = k := by omega
            exact HZ.out
        case measure => simp [intOf]; omega
    · have t1 : decide ((k : Int) < (len : Int)) = false := decide_eq_false (by omega)
      have t2 : decide (k < len) = false := decide_eq_false hlt
      go_wp2_with fail
      go_ret
      refine ⟨-1, rfl, ?_, hbel.out⟩
      rw [decide_eq_false (by omega)]
      refine (List.any_eq_false.2 fun x hx => ?_).symm
      rw [hne.out x (by have := List.mem_range.1 hx; omega)]
      simp
set_option maxRecDepth 100000 in
set_option maxHeartbeats 1000000 in
theorem ContainsS_any (A : Option Addr) (len cap : Nat) (hreach : len < 4611686018427387904) (f : FuncId) (caps : Array Value) (q : Nat → Bool) (w : World)
    (en : ∀ args w, (callFunc f args).run Tryd.prog w = .ok (.enter f args) w) (hE : ElemS w A len f caps q) :
    Calls Tryd.prog 29 #[.slice A len cap, .func (.func f) #[] caps] w (Tl ((List.range len).any q) w) := by
  have HI := Lib.hid (IndexS_any A len cap hreach f caps q w en hE)
  obtain ⟨z, hz⟩ : ∃ z, (List.range len).any q = z := ⟨_, rfl⟩
  rw [hz] at HI ⊢
  clear hz hE
  go_enter Tryd.func29, Tryd.ntmps29
  go_wp2_with fail
  refine HI.out.mono ?_
  rintro e w1 ⟨r, rfl, hr, hb⟩
  have HB := Lib.hid hb
  clear hb
  cases z with
  | true =>
    go_wp2_with fail
    go_ret
    exact ⟨rfl, HB.out⟩
  | false =>
    go_wp2_with fail
    go_ret
    exact ⟨rfl, HB.out⟩
def Ask (x t : List UInt8) (w : World) : Prop := (x.length < 4294967281 ∧ Mx w) ∨ t.length = 1
theorem find_any (x t : List UInt8) (w : World) (h : Ask x t w) : Calls Tryd.prog 22 #[.string (strOf x), .string (strOf t)] w fun e w' => e = .returned (.bool (hasL x t)) ∧ w' = w := by
  have hh := has_index x t
  rcases h with ⟨h1, h2⟩ | h
  · have := contains_any (strOf x) (strOf t) w h1 h2
    rw [strOf_data, strOf_data, hh] at this
    exact this
  · match t, h with
    | [c], _ =>
      have := Any.strings_Contains_one contLays (strOf x) c w
      rw [strOf_data] at this
      have e : decide (0 ≤ Lib.indexByte x c) = hasL x [c] := by rw [← hh]; unfold Lib.contains; rw [Lib.index_one]
      rw [e] at this
      exact this
set_option maxRecDepth 100000 in
set_option maxHeartbeats 1000000 in
theorem match1_any (x t : List UInt8) (w : World) (b : Nat) (hb : w.cell? ⟨b, 0, none⟩ = some (.string (strOf t))) (h : Ask x t w) : Calls Tryd.prog 28 #[.string (strOf x), .pointer (some ⟨b, 0, none⟩)] w (Tl (hasL x t) w) := by
  have HC := Lib.hid (find_any x t w h)
  generalize hasL x t = z at *
  generalize strOf x = X at *
  generalize strOf t = T at *
  go_enter Tryd.func28, Tryd.ntmps28
  go_wp2_with fail
  refine HC.out.mono ?_
  rintro e w1 ⟨rfl, rfl⟩
  go_wp2_with fail
  go_ret
  exact ⟨rfl, Below.refl _ _⟩
end Go.Proofs.YtjbaogoapobhbaaDoor.Fo
