/- Merged: TlJ. -/
import Derived.Test.YtfdibmcjjclgkaaTt16
import Derived.Test.YtfdibmcjjclgkaaTt14
import Derived.Test.YtfdibmcjjclgkaaTt4
import Derived.Test.YtfdibmcjjclgkaaTt6
import Derived.Deep.AppendLies
import Derived.RangeFuncBox
namespace Go.Proofs.Ytfdibmcjjclgkaa.Tl
open Go.Proofs Go.RowKit Go.Shelf
open Go.Proofs.Ytfdibmcjjclgkaa.Utf
open Go.Proofs.Ytfdibmcjjclgkaa.Ro
attribute [local go_sem] Oper.semAt_some

theorem infoPp : (Try.prog.info? 39).map (fun i => (i.zero, i.size, i.bytes)) = some (some (.agg #[.string ByteArray.empty, .bool false, .bool false, .int .i64 0]), 4, 32) := by kernel_rfl
def pastsQ {O : List (Nat × Pa)} (pre : List (Tr.Ix × QE O)) : List Pa := pre.map (fun x => x.2.1.2)
theorem pastsQ_app {O : List (Nat × Pa)} (pre : List (Tr.Ix × QE O)) (x : Tr.Ix × QE O) : pastsQ (pre ++ [x]) = pastsQ pre ++ [x.2.1.2] := by simp [pastsQ]
theorem pastsQ_all (O : List (Nat × Pa)) : pastsQ (seqX 0 O.attach) = (O.map (·.2)).reverse := by
  have h := seqX_val O.attach 0
  have h2 : O.map (·.2) = (O.attach).map (fun x => x.1.2) := by
    conv => lhs; rw [← List.attach_map_subtype_val O]
    rw [List.map_map]; rfl
  have h3 := congrArg List.reverse h
  rw [List.reverse_reverse] at h3
  have h4 : pastsQ (seqX 0 O.attach) = ((seqX 0 O.attach).map (·.2)).map (fun x => x.1.2) := by unfold pastsQ; rw [List.map_map]; rfl
  rw [h4, h3, h2, List.map_reverse]
theorem paC_snoc (l : List Pa) (p : Pa) : (paC (l ++ [p])).flatten = (paC l).flatten ++ paR p := by unfold paC; rw [List.map_append, List.flatten_append]; simp
theorem boxed_own {B b : Nat} {t : TypeId} {v : Value} {X Y : World} {row : Option Nat} (hs : Boxed X b t v) (hg : X.grownBy Y row) (hr : ∀ r, row = some r → B ≤ r ∧ ∃ o : Obj, X.heap[r]? = some o ∧ o.isCells = false) : Boxed Y b t v :=
  hs.kept hg (fun e => by obtain ⟨_, o, ho, hc⟩ := hr _ e.symm; rw [show X.heap[_]? = _ from hs] at ho; cases ho; cases hc)
def GivesRi (L : List Pa) (w : World) (e : Ending) (w' : World) : Prop :=
  ∃ x, e = .returned x ∧ w'.ownsRow w.heap.size 39 4 x (L.foldl insP []).length (paC (L.foldl insP [])).flatten ∧ Below w.heap.size w w'

set_option maxRecDepth 100000 in
set_option maxHeartbeats 4000000 in
theorem rising_any (v0 : Value) (O : List (Nat × Pa)) (w : World) (hn : O.length ≤ 1000)
    (hv : ∃ A c, v0 = .slice A O.length c ∧ (0 < O.length → ∃ b off, A = some ⟨b, off, none⟩ ∧ b < w.heap.size ∧ ∀ i (h : i < O.length), w.cell? ⟨b, off + i, none⟩ = some (ptrV (O[i]).1)))
    (hO : ∀ x ∈ O, x.1 < w.heap.size ∧ w.heap[x.1]? = some (.cells (paR x.2).toArray 39 (0, 0))) :
    Calls Try.prog 24 #[v0] w (GivesRi (O.map (·.2)).reverse w) := by
  refine (callsIn_wide (n := 5)).1 ?_
  refine callsIn_of_wp_marks Try.func24 rfl trivial ?_ rfl
  simp only [Try.ntmps24, List.size_toArray, List.length_cons, List.length_nil, Nat.reduceAdd, Nat.reduceSub, Array.replicate_succ, Array.replicate_zero, List.push_toArray, List.append_toArray, List.nil_append, List.cons_append]
  obtain ⟨i0, hi, hz0, hz1, hz2⟩ := info_parts infoPp
  obtain ⟨A, c, rfl, hA⟩ := hv
  have HA := Lib.hid hA
  have HO := Lib.hid hO
  clear hA hO
  obtain ⟨n, hn'⟩ : ∃ n, O.length = n := ⟨_, rfl⟩
  have HN := Lib.hid hn'
  rw [hn'] at hn ⊢
  clear hn'
  gi_wp2_with (gi_at_make; refine wpListIn_make_own _ rfl _ _ 34 rfl w.heap.size 39 i0 _ 4 Try.underlying34 hi hz0 hz1 .i64 .i64 _ n rfl rfl rfl (by rw [hz2]; omega) (by unfold maxLen; omega) (Nat.le_refl _) ?_; intro w1 hown1 hg1)
  have hs1 : w.heap.size < w1.heap.size := (hown1.lt _ rfl).2
  have hb1 : Below w.heap.size w w1 := (Below.refl _ w).grown hg1 (Nat.le_refl _) (fun k e => by cases e)
  have HOW1 := Lib.hid hown1
  have HB1 := Lib.hid hb1
  clear hown1 hg1 hb1
  refine ⟨trivial, ?_⟩
  refine (backQ_in Fence.wide _ trivial rfl _ _ _ _).mono ?_
  rintro e w' ⟨rfl, rfl⟩
  gi_wp2
  obtain ⟨W0, hW0⟩ : ∃ W0, W0 = (w1.alloc (.cells #[.slice (some ⟨w.heap.size, 0, none⟩) 0 n] 34)).alloc (.cells #[.slice A n c] 48) := ⟨_, rfl⟩
  have hsz : W0.heap.size = w1.heap.size + 2 := by rw [hW0]; simp
  have hB1 : Boxed W0 w1.heap.size 34 (.slice (some ⟨w.heap.size, 0, none⟩) 0 n) := by rw [hW0]; exact (Boxed.new w1 34 _).alloc _
  have hB2 : Boxed W0 (w1.heap.size + 1) 48 (.slice A n c) := by
    have := Boxed.new (w1.alloc (.cells #[.slice (some ⟨w.heap.size, 0, none⟩) 0 n] 34)) 48 (.slice A n c)
    rw [World.size_alloc, ← hW0] at this
    exact this
  have hOW : W0.ownsRow w.heap.size 39 4 (.slice (some ⟨w.heap.size, 0, none⟩) 0 n) 0 [] := by rw [hW0]; exact (HOW1.out.alloc _).alloc _
  have hBw : Below w.heap.size w W0 := by rw [hW0]; exact (HB1.out.alloc HB1.out.size _).alloc (by have := HB1.out.size; simp; omega) _
  rw [← hW0]
  clear hW0
  have hseq := backQ_stops (O := O) Fence.wide 4 trivial rfl (by omega) (w1.heap.size + 1) w.heap.size c A O.attach (by rw [List.length_attach, HN.out]; omega) W0 (by omega) hBw.size (by rw [List.length_attach, HN.out]; exact hB2.cell)
    (fun h => by
      rw [List.length_attach] at h
      obtain ⟨b, off, e, hb, hc⟩ := HA.out h
      refine ⟨b, off, e, hb, fun i hi => ?_⟩
      rw [List.length_attach] at hi
      have := hc i hi
      unfold AtQ
      rw [hBw.cell (p := ⟨b, off + i, none⟩) hb, List.getElem_attach]
      exact this)
  refine wpIn_rangeFunc_ownH rfl (by omega) (gf := 31) (lb := #[.pointer (some ⟨w1.heap.size + 1, 0, none⟩)]) rfl trivial (enters_of Try.func31 (by kernel_rfl) rfl)
    hseq (fun h k => h.trans k) (fun W l o o' hl ho hc hw => ⟨belowK_b (w := W0) hBw.size W l o o' hl ho hc hw, World.putObj_heap_other (by omega)⟩) (Below.refl _ _) (fun _ => rfl)
    (fun pre W => ((∃ v, Boxed W w1.heap.size 34 v ∧ W.ownsRow w.heap.size 39 4 v pre.length (paC (pastsQ pre)).flatten ∧ True) ∧ Boxed W (w1.heap.size + 1) 48 (.slice A n c)) ∧ (Below w.heap.size w W ∧ w1.heap.size + 2 ≤ W.heap.size))
    (fun _ _ _ => False)
    (OwnFrom.and (OwnFrom.and (Own.from (holdsRow_own w.heap.size w1.heap.size 34 39 4 (fun pre : List (Tr.Ix × QE O) => pre.length) (fun pre => (paC (pastsQ pre)).flatten) (fun _ _ => True)) _) (fun s X Y row hs hg hr => boxed_own hs hg hr)) (OwnFrom.and (ownFrom_below (Nat.le_refl _) hBw.size) (fun s X Y row hs hg hr => Nat.le_trans hs hg.size)))
    (fun _ _ _ _ _ hs _ _ => hs)
    ⟨⟨⟨_, hB1, hOW, trivial⟩, hB2⟩, hBw, by omega⟩
    (fun x a' _ => a' = { tmps := #[.slice A n c, undef, .slice none 0 0, .pointer (some ⟨w1.heap.size, 0, none⟩), undef, ptrV x.2.1.1, .slice A n c, .int .i64 n, .slice (some ⟨w.heap.size, 0, none⟩) 0 n, .slice A n c, .func (.func 31) #[] #[.pointer (some ⟨w1.heap.size + 1, 0, none⟩)], .int .i64 x.1.1, ptrV x.2.1.1, undef, undef, undef, undef, undef, undef, undef, undef, undef], defers := [] })
    (fun x a' _ _ _ _ hs _ _ => hs) ?assign ?body ?done ?stop
  case assign =>
    rintro l pre x W K hI hK
    have HK := Lib.hid hK
    have HI := Lib.hid hI
    clear hK hI
    simp only [encIQ]
    gi_wp2
    exact HK.out _ _ ⟨Nat.le_refl _, fun _ _ _ h _ => h⟩ (Tr.KB.refl _ _ _) HI.out rfl
  case body =>
    rintro l pre x a' W hl - ⟨⟨⟨v, hv, hrow, -⟩, hqb⟩, hB, hS0⟩ rfl hlt
    have hpl : pre.length < n := by rw [List.length_attach, HN.out] at hlt; exact hlt
    have hc := hv.cell
    have HV := Lib.hid hv
    have HR := Lib.hid hrow
    have HB := Lib.hid hB
    have HQB := Lib.hid hqb
    have HBX := Lib.hid (show w.heap.size ≤ w1.heap.size by omega)
    obtain ⟨hpl2, hpw⟩ := HO.out x.2.1 x.2.2
    have HPL := Lib.hid hpl2
    have HPW := Lib.hid hpw
    have HPX := Lib.hid (show x.2.1.1 ≠ w1.heap.size by omega)
    have HPW0 := Lib.hid (show W.drew.heap[x.2.1.1]? = some (.cells (paR x.2.1.2).toArray 39 (0, 0)) from (hB.block _ hpl2).trans hpw)
    have HPB := Lib.hid (show x.2.1.1 < W.drew.heap.size from Nat.lt_of_lt_of_le hpl2 hB.size)
    obtain ⟨q, hq⟩ : ∃ q : Pa, q = x.2.1.2 := ⟨_, rfl⟩
    obtain ⟨pa, pb, pc, pd⟩ := q
    obtain ⟨X, hX⟩ : ∃ X, X = strOf pa := ⟨_, rfl⟩
    have HXR := Lib.hid (show paR x.2.1.2 = [.string X, .bool pb, .bool pc, .int .i64 pd] by rw [← hq, hX]; rfl)
    have HSC := Lib.hid (fun (u : World) (h : u.heap[x.2.1.1]? = some (.cells (paR x.2.1.2).toArray 39 (0, 0))) => row4 (show u.heap[x.2.1.1]? = some (.cells #[.string X, .bool pb, .bool pc, .int .i64 pd] 39 (0, 0)) by rw [h, HXR.out]))
    have HUC := Lib.hid (fun (j : Nat) (u : World) (o : Obj) (h : x.2.1.1 < u.heap.size) => (show (u.alloc o).cell? ⟨x.2.1.1, j, none⟩ = u.cell? ⟨x.2.1.1, j, none⟩ from ((Below.refl u.heap.size u).alloc (Nat.le_refl _) o).cell (p := ⟨x.2.1.1, j, none⟩) h))
    clear hq hX hv hrow hB hqb hpl2 hpw hl hlt
    gi_wp2
    -- moves
    refine Fo.wpIn_region_held_round (S := fun u => u.cell? ⟨x.2.1.1, 0, none⟩ = some (.string X) ∧ u.cell? ⟨x.2.1.1, 1, none⟩ = some (.bool pb) ∧ u.cell? ⟨x.2.1.1, 2, none⟩ = some (.bool pc) ∧ u.cell? ⟨x.2.1.1, 3, none⟩ = some (.int .i64 pd)) (by kernel_rfl) (by kernel_rfl) (fun _ _ h => h) (HSC.out _ HPW0.out) (fun hS => ?_)
    refine wpAnyH_take (i := 1) (oi := { dst := some 14, op := Op.move (Operand.tmp 5), type := 52, pos := "trail.go:88", after := #[], guard := none }) (v := ?_) rfl (by kernel_rfl) (by kernel_rfl) (by kernel_rfl) (fun _ _ _ h => h) (Or.inl ⟨by rfl, ?_⟩) hS ?_
    rotate_left
    · intro w hSw; (try dsimp only at hSw); go_simp; with_reducible rfl
    try simp only [Act.put, List.setIfInBounds_toArray, List.set_cons_zero, List.set_cons_succ]
    refine wpAnyH_take (i := 2) (oi := { dst := some 15, op := Op.nilCheck (Operand.tmp 14), type := 0, pos := "trail.go:88", after := #[{ on := 1, ground := Ground.data }], guard := none }) (v := ?_) rfl (by kernel_rfl) (by kernel_rfl) (by kernel_rfl) (fun _ _ _ h => h) (Or.inl ⟨by rfl, ?_⟩) hS ?_
    rotate_left
    · intro w hSw; (try dsimp only at hSw); go_simp; with_reducible rfl
    try simp only [Act.put, List.setIfInBounds_toArray, List.set_cons_zero, List.set_cons_succ]
    refine wpAnyH_take (i := 3) (oi := { dst := some 16, op := Op.load 39 (Operand.tmp 15), type := 39, pos := "trail.go:88", after := #[{ on := 2, ground := Ground.data }], guard := none }) (v := ?_) rfl (by kernel_rfl) (by kernel_rfl) (by kernel_rfl) (fun _ _ _ h => h) (Or.inl ⟨by rfl, ?_⟩) hS ?_
    rotate_left
    · intro w hSw; (try dsimp only at hSw); go_simp; with_reducible rfl
    try simp only [Act.put, List.setIfInBounds_toArray, List.set_cons_zero, List.set_cons_succ]
    refine wpAnyH_ready (rs := [0, 4]) (by kernel_rfl) (by simp) ?_
    refine AllReadyH.cons (o := { dst := some 13, op := Op.load 34 (Operand.tmp 3), type := 34, pos := "trail.go:88", after := #[], guard := none }) rfl (fun K hK => ?_) (AllReadyH.cons (o := { dst := some 17, op := Op.buildSlice 34 1 #[(0, Operand.tmp 16)], type := 34, pos := "trail.go:88", after := #[{ on := 3, ground := Ground.data }], guard := none }) rfl (fun K hK => ?_) AllReadyH.nil)
    · go_simp
      refine hK.out _ _ (hS) (fun hS => ?_)
      clear hK K
      try simp only [Act.put, List.setIfInBounds_toArray, List.set_cons_zero, List.set_cons_succ]
      refine wpAnyH_ready (rs := [4]) (by kernel_rfl) (by simp) ?_
      refine AllReadyH.cons (o := { dst := some 17, op := Op.buildSlice 34 1 #[(0, Operand.tmp 16)], type := 34, pos := "trail.go:88", after := #[{ on := 3, ground := Ground.data }], guard := none }) rfl (fun K hK => ?_) AllReadyH.nil
      go_simp
      refine hK.out _ _ (⟨(HUC.out _ _ _ HPB.out).trans hS.1, (HUC.out _ _ _ HPB.out).trans hS.2.1, (HUC.out _ _ _ HPB.out).trans hS.2.2.1, (HUC.out _ _ _ HPB.out).trans hS.2.2.2⟩) (fun hS => ?_)
      clear hK K
      try simp only [Act.put, List.setIfInBounds_toArray, List.set_cons_zero, List.set_cons_succ]
      obtain ⟨U, hU⟩ : ∃ U, U = (W.alloc (.cells #[.string X, .bool pb, .bool pc, .int .i64 pd] 39)).drew := ⟨_, rfl⟩
      rw [← hU] at hS ⊢
      have HU := Lib.hid hU
      have hcU : U.cell? ⟨w1.heap.size, 0, none⟩ = some v := by rw [hU]; exact (HV.out.alloc _).cell
      have HOU := Lib.hid (show U.ownsRow w.heap.size 39 4 v pre.length (paC (pastsQ pre)).flatten by rw [hU]; exact HR.out.alloc _)
      have HCU := Lib.hid (show ∀ (j : Nat) (u : Value), [Value.string X, .bool pb, .bool pc, .int .i64 pd][j]? = some u → U.cell? ((⟨W.heap.size, 0, none⟩ : Addr).add j) = some u by rw [hU]; exact cells_new W _ _)
      have HSU := Lib.hid (show w.heap.size ≤ U.heap.size by rw [hU]; show w.heap.size ≤ (W.alloc _).heap.size; simp; have := HB.out.size; omega)
      clear hU
      refine wpAnyH_ready (rs := [5]) (by kernel_rfl) (by simp) ?_
      refine AllReadyH.cons (o := { dst := some 18, op := Op.call { callee := Callee.builtin Builtin.append, args := #[Operand.tmp 13, Operand.tmp 17], argTypes := #[34, 34] }, type := 34, pos := "trail.go:88", after := #[{ on := 0, ground := Ground.data }, { on := 4, ground := Ground.data }], guard := none }) rfl (fun K hK => ?_) AllReadyH.nil
      refine wp_append_lies _ _ _ _ rfl w.heap.size 39 i0 _ 4 32 Try.underlying34 hi hz0 hz1 hz2 rfl (by decide) v pre.length (paC (pastsQ pre)).flatten rfl HOU.out ⟨W.heap.size, 0, none⟩ 1 1 [.string X, .bool pb, .bool pc, .int .i64 pd] rfl rfl HCU.out (by intro u hu; simp at hu; rcases hu with rfl | rfl | rfl | rfl <;> rfl) (by omega) (by unfold maxLen; omega) (by omega) HSU.out _ rfl ?_
      intro g cap w4 hown4 hg4 _ _
      rw [HU.out] at hg4
      replace hg4 : (W.drew.alloc (.cells #[.string X, .bool pb, .bool pc, .int .i64 pd] 39)).grownBy w4 v.ownBlock := hg4
      have ⟨hv4, hv5, hr5, hk5, hb5⟩ := (show Boxed W.drew w1.heap.size 34 v from HV.out).appended (by decide) (show W.drew.ownsRow _ _ _ _ _ _ from HR.out) HB.out.size HBX.out hown4 hg4
      have HQ4 := Lib.hid (show Boxed w4 (w1.heap.size + 1) 48 (.slice A n c) from ((show Boxed W.drew (w1.heap.size + 1) 48 (.slice A n c) from HQB.out).alloc _).kept hg4 (HQB.out.not_row (by decide) HR.out))
      have HP4 := Lib.hid (show w4.heap[x.2.1.1]? = some (.cells (paR x.2.1.2).toArray 39 (0, 0)) from (HB.out.drew.alloc HB.out.size _ |>.grown hg4 (by have := HB.out.size; simp; omega) (fun j ej => (HR.out.lt j ej).1)).block _ HPL.out |>.trans HPW.out)
      refine hK.out _ _ (HSC.out _ HP4.out) (fun hS => ?_)
      clear hK K
      try simp only [Act.put, List.setIfInBounds_toArray, List.set_cons_zero, List.set_cons_succ]
      have hc4 := hv4.cell
      have hf4 := hv4.frozen
      have HS4 := Lib.hid (show W.heap.size ≤ w4.heap.size from Nat.le_trans (by simp) hg4.size)
      have H5 := Lib.hid (And.intro hv5 (And.intro hr5 (And.intro hk5 hb5)))
      clear hown4 hg4 hv4 hv5 hr5 hk5 hb5
      refine wpAnyH_ready (rs := [6]) (by kernel_rfl) (by simp) ?_
      refine AllReadyH.cons (o := { dst := none, op := Op.store 34 (Operand.tmp 3) (Operand.tmp 18), type := 0, pos := "trail.go:88", after := #[{ on := 5, ground := Ground.data }, { on := 5, ground := Ground.chain }, { on := 0, ground := Ground.phase }, { on := 1, ground := Ground.phase }, { on := 2, ground := Ground.phase }, { on := 3, ground := Ground.phase }, { on := 4, ground := Ground.phase }, { on := 5, ground := Ground.phase }], guard := none }) rfl (fun K hK => ?_) AllReadyH.nil
      go_simp
      refine hK.out _ _ (HSC.out _ (by rw [Below.heap_setCell _ _ _ _ (by show x.2.1.1 ≠ w1.heap.size; exact HPX.out)]; exact HP4.out)) (fun hS => ?_)
      clear hK K
      try simp only [Act.put, List.setIfInBounds_toArray, List.set_cons_zero, List.set_cons_succ]
      refine wpAnyH_done (by kernel_rfl) ?_ _
      obtain ⟨hv5, hr5, hk5, hb5⟩ := H5.out
      replace hb5 := (show Below w.heap.size W W.drew from (Below.refl _ _).drew).trans hb5
      replace hk5 : KeepsFrom W0.heap.size W _ := ⟨hk5.size, fun i o hB2 h1 h2 => (hk5.from W0.heap.size).same i o hB2 h1 h2⟩
      have HQ5 := Lib.hid (fun v' => HQ4.out.kept (grownBy_setCell' w4 w1.heap.size v') (by simp))
      exact ⟨hk5, ⟨hb5, (HQ5.out _).trans HQB.out.symm⟩, ⟨⟨_, hv5, by rw [pastsQ_app, paC_snoc, List.length_append, HXR.out]; exact hr5, trivial⟩, HQ5.out _⟩, HB.out.trans hb5, Nat.le_trans hS0 (Nat.le_trans HS4.out (by simp))⟩
    · go_simp
      refine hK.out _ _ (⟨(HUC.out _ _ _ HPB.out).trans hS.1, (HUC.out _ _ _ HPB.out).trans hS.2.1, (HUC.out _ _ _ HPB.out).trans hS.2.2.1, (HUC.out _ _ _ HPB.out).trans hS.2.2.2⟩) (fun hS => ?_)
      clear hK K
      try simp only [Act.put, List.setIfInBounds_toArray, List.set_cons_zero, List.set_cons_succ]
      obtain ⟨U, hU⟩ : ∃ U, U = (W.alloc (.cells #[.string X, .bool pb, .bool pc, .int .i64 pd] 39)).drew := ⟨_, rfl⟩
      rw [← hU] at hS ⊢
      have HU := Lib.hid hU
      have hcU : U.cell? ⟨w1.heap.size, 0, none⟩ = some v := by rw [hU]; exact (HV.out.alloc _).cell
      have HOU := Lib.hid (show U.ownsRow w.heap.size 39 4 v pre.length (paC (pastsQ pre)).flatten by rw [hU]; exact HR.out.alloc _)
      have HCU := Lib.hid (show ∀ (j : Nat) (u : Value), [Value.string X, .bool pb, .bool pc, .int .i64 pd][j]? = some u → U.cell? ((⟨W.heap.size, 0, none⟩ : Addr).add j) = some u by rw [hU]; exact cells_new W _ _)
      have HSU := Lib.hid (show w.heap.size ≤ U.heap.size by rw [hU]; show w.heap.size ≤ (W.alloc _).heap.size; simp; have := HB.out.size; omega)
      clear hU
      refine wpAnyH_ready (rs := [0]) (by kernel_rfl) (by simp) ?_
      refine AllReadyH.cons (o := { dst := some 13, op := Op.load 34 (Operand.tmp 3), type := 34, pos := "trail.go:88", after := #[], guard := none }) rfl (fun K hK => ?_) AllReadyH.nil
      go_simp
      refine hK.out _ _ (hS) (fun hS => ?_)
      clear hK K
      try simp only [Act.put, List.setIfInBounds_toArray, List.set_cons_zero, List.set_cons_succ]
      refine wpAnyH_ready (rs := [5]) (by kernel_rfl) (by simp) ?_
      refine AllReadyH.cons (o := { dst := some 18, op := Op.call { callee := Callee.builtin Builtin.append, args := #[Operand.tmp 13, Operand.tmp 17], argTypes := #[34, 34] }, type := 34, pos := "trail.go:88", after := #[{ on := 0, ground := Ground.data }, { on := 4, ground := Ground.data }], guard := none }) rfl (fun K hK => ?_) AllReadyH.nil
      refine wp_append_lies _ _ _ _ rfl w.heap.size 39 i0 _ 4 32 Try.underlying34 hi hz0 hz1 hz2 rfl (by decide) v pre.length (paC (pastsQ pre)).flatten rfl HOU.out ⟨W.heap.size, 0, none⟩ 1 1 [.string X, .bool pb, .bool pc, .int .i64 pd] rfl rfl HCU.out (by intro u hu; simp at hu; rcases hu with rfl | rfl | rfl | rfl <;> rfl) (by omega) (by unfold maxLen; omega) (by omega) HSU.out _ rfl ?_
      intro g cap w4 hown4 hg4 _ _
      rw [HU.out] at hg4
      replace hg4 : (W.drew.alloc (.cells #[.string X, .bool pb, .bool pc, .int .i64 pd] 39)).grownBy w4 v.ownBlock := hg4
      have ⟨hv4, hv5, hr5, hk5, hb5⟩ := (show Boxed W.drew w1.heap.size 34 v from HV.out).appended (by decide) (show W.drew.ownsRow _ _ _ _ _ _ from HR.out) HB.out.size HBX.out hown4 hg4
      have HQ4 := Lib.hid (show Boxed w4 (w1.heap.size + 1) 48 (.slice A n c) from ((show Boxed W.drew (w1.heap.size + 1) 48 (.slice A n c) from HQB.out).alloc _).kept hg4 (HQB.out.not_row (by decide) HR.out))
      have HP4 := Lib.hid (show w4.heap[x.2.1.1]? = some (.cells (paR x.2.1.2).toArray 39 (0, 0)) from (HB.out.drew.alloc HB.out.size _ |>.grown hg4 (by have := HB.out.size; simp; omega) (fun j ej => (HR.out.lt j ej).1)).block _ HPL.out |>.trans HPW.out)
      refine hK.out _ _ (HSC.out _ HP4.out) (fun hS => ?_)
      clear hK K
      try simp only [Act.put, List.setIfInBounds_toArray, List.set_cons_zero, List.set_cons_succ]
      have hc4 := hv4.cell
      have hf4 := hv4.frozen
      have HS4 := Lib.hid (show W.heap.size ≤ w4.heap.size from Nat.le_trans (by simp) hg4.size)
      have H5 := Lib.hid (And.intro hv5 (And.intro hr5 (And.intro hk5 hb5)))
      clear hown4 hg4 hv4 hv5 hr5 hk5 hb5
      refine wpAnyH_ready (rs := [6]) (by kernel_rfl) (by simp) ?_
      refine AllReadyH.cons (o := { dst := none, op := Op.store 34 (Operand.tmp 3) (Operand.tmp 18), type := 0, pos := "trail.go:88", after := #[{ on := 5, ground := Ground.data }, { on := 5, ground := Ground.chain }, { on := 0, ground := Ground.phase }, { on := 1, ground := Ground.phase }, { on := 2, ground := Ground.phase }, { on := 3, ground := Ground.phase }, { on := 4, ground := Ground.phase }, { on := 5, ground := Ground.phase }], guard := none }) rfl (fun K hK => ?_) AllReadyH.nil
      go_simp
      refine hK.out _ _ (HSC.out _ (by rw [Below.heap_setCell _ _ _ _ (by show x.2.1.1 ≠ w1.heap.size; exact HPX.out)]; exact HP4.out)) (fun hS => ?_)
      clear hK K
      try simp only [Act.put, List.setIfInBounds_toArray, List.set_cons_zero, List.set_cons_succ]
      refine wpAnyH_done (by kernel_rfl) ?_ _
      obtain ⟨hv5, hr5, hk5, hb5⟩ := H5.out
      replace hb5 := (show Below w.heap.size W W.drew from (Below.refl _ _).drew).trans hb5
      replace hk5 : KeepsFrom W0.heap.size W _ := ⟨hk5.size, fun i o hB2 h1 h2 => (hk5.from W0.heap.size).same i o hB2 h1 h2⟩
      have HQ5 := Lib.hid (fun v' => HQ4.out.kept (grownBy_setCell' w4 w1.heap.size v') (by simp))
      exact ⟨hk5, ⟨hb5, (HQ5.out _).trans HQB.out.symm⟩, ⟨⟨_, hv5, by rw [pastsQ_app, paC_snoc, List.length_append, HXR.out]; exact hr5, trivial⟩, HQ5.out _⟩, HB.out.trans hb5, Nat.le_trans hS0 (Nat.le_trans HS4.out (by simp))⟩
  case done =>
    rintro D ys W hD hys ⟨⟨⟨v, hv, hrow, -⟩, hqb⟩, hB, hS⟩ hK
    have hc := hv.cell
    have HP := Lib.hid (show pastsQ ys = (O.map (·.2)).reverse by rw [hys]; exact pastsQ_all O)
    have hln : ys.length = (pastsQ ys).length := by unfold pastsQ; rw [List.length_map]
    have hyn : ys.length = n := by rw [hys, seqX_len, List.length_attach]; exact HN.out
    rw [hln] at hrow
    have HSO := Lib.hid (sort_own hrow (by omega))
    rw [HP.out] at HSO
    obtain ⟨L, hL⟩ : ∃ L, (O.map (·.2)).reverse = L := ⟨_, rfl⟩
    rw [hL] at HSO
    have HLL := Lib.hid hL
    have HB := Lib.hid hB
    have HK := Lib.hid hK
    have HV := Lib.hid hv
    have HNR := Lib.hid (show some w1.heap.size ≠ v.ownBlock from hv.not_row (by decide) hrow)
    have HND := Lib.hid (show some D ≠ v.ownBlock from fun e => by
      rcases hrow.2 with ⟨rfl, _⟩ | ⟨g, cap, cur, rfl, _, hgb, _⟩
      · simp [Value.ownBlock] at e
      · obtain rfl : D = g := by simpa [Value.ownBlock] using e
        rw [hgb] at hK; cases hK)
    have HLT := Lib.hid (fun k (h : v.ownBlock = some k) => hrow.lt k h)
    clear hL hB hK hrow hqb hys hln hv
    gi_wp2
    refine ⟨trivial, ?_⟩
    refine (callsIn_wide.2 HSO.out).mono ?_
    rintro e w5 ⟨rfl, hr, -, hkk, hsz5, ho5, ht5, hu5⟩
    have hV5 : Boxed w5 w1.heap.size 34 v := (hkk _ HNR.out HV.out.lt).trans HV.out
    have HK5 := Lib.hid (show w5.heap[D]? = some (.deferred (some [])) from (hkk _ HND.out (Array.getElem?_eq_some_iff.1 HK.out).1).trans HK.out)
    have HB5 := Lib.hid (show Below w.heap.size w w5 from HB.out.trans ⟨ho5, ht5, hu5, hsz5, fun k hk => hkk k (fun e => by have := (HLT.out k e.symm).1; omega) (Nat.lt_of_lt_of_le hk HB.out.size)⟩)
    have HR5 := Lib.hid hr
    have hc5 := hV5.cell
    clear hr hkk hsz5 ho5 ht5 hu5 hc
    gi_wp2
    have hk := HK5.out
    refine ⟨by simp, .inl ⟨_, _, rfl, run_takeDeferred hk, ?_⟩⟩
    refine ⟨_, results_tmp rfl _ _ _, v, rfl, ?_, HB5.out.trans (belowK_b (w := w) (Nat.le_refl _) w5 D _ _ (by have := HB1.out.size; omega) hk rfl rfl)⟩
    rw [HLL.out]
    exact ownsRow_putObj HR5.out (.deferred none) hk rfl
  case stop =>
    rintro D c pre W _ _ h _
    exact h.elim
end Go.Proofs.Ytfdibmcjjclgkaa.Tl
