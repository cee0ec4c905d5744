/- Merged: TlW1 TlW2 TlW6 TlW5. -/
import Derived.Test.YtfdibmcjjclgkaaTt20
import Derived.Test.YtfdibmcjjclgkaaTt8
import Derived.Test.YtfdibmcjjclgkaaTt1
import Derived.Test.YtfdibmcjjclgkaaTt6
namespace Go.Proofs.Ytfdibmcjjclgkaa.Tl
open Go.Proofs Go.RowKit
open Go.Proofs.Ytfdibmcjjclgkaa.Utf
open Go.Proofs.Ytfdibmcjjclgkaa.Ro

theorem wf_i64 {n : Int} (h : (Lit.int .i64 n).wf = true) : -9223372036854775808 ≤ n ∧ n ≤ 9223372036854775807 := by
  have h1 : (decide (-9223372036854775808 ≤ n) && decide (n ≤ 9223372036854775807)) = true := h
  rw [Bool.and_eq_true] at h1
  exact ⟨of_decide_eq_true h1.1, of_decide_eq_true h1.2⟩
end Go.Proofs.Ytfdibmcjjclgkaa.Tl
namespace Go.Proofs.Ytfdibmcjjclgkaa.Tl
open Go.Proofs Go.RowKit
open Go.Proofs.Ytfdibmcjjclgkaa.Utf
open Go.Proofs.Ytfdibmcjjclgkaa.Ro

theorem out_len (l : List En) (keep : Int) (e : En) : (outS l keep e).length ≤ l.length + 1 := by
  unfold outS
  rw [List.length_drop, List.length_append, List.length_singleton]; omega
end Go.Proofs.Ytfdibmcjjclgkaa.Tl
namespace Go.Proofs.Ytfdibmcjjclgkaa.Tl
open Go.Proofs Go.RowKit
open Go.Proofs.Ytfdibmcjjclgkaa.Utf
open Go.Proofs.Ytfdibmcjjclgkaa.Ro

theorem enC_one (l : List En) : ∀ u ∈ (enC l).flatten, u.oneCell' = true := by
  intro u hu
  obtain ⟨r, hr, hu⟩ := List.mem_flatten.1 hu
  obtain ⟨q, -, rfl⟩ := List.mem_map.1 hr
  unfold enR at hu
  simp at hu
  rcases hu with rfl | rfl | rfl <;> rfl
theorem enC_app (a b : List En) : (enC (a ++ b)).flatten = (enC a).flatten ++ (enC b).flatten := by unfold enC; rw [List.map_append, List.flatten_append]
theorem enC_flen (l : List En) : (enC l).flatten.length = l.length * 3 := by rw [flat_len (s := 3) _ enC_3, enC_len]
end Go.Proofs.Ytfdibmcjjclgkaa.Tl
namespace Go.Proofs.Ytfdibmcjjclgkaa.Tl
open Go.Proofs Go.RowKit
open Go.Proofs.Ytfdibmcjjclgkaa.Utf
open Go.Proofs.Ytfdibmcjjclgkaa.Ro

theorem own_empty {W : World} {B E : Nat} (h : B ≤ W.heap.size) : (W.alloc (.cells #[] E)).ownsRow B E 3 (.slice (some ⟨W.heap.size, 0, none⟩) 0 0) 0 [] :=
  ⟨rfl, .inr ⟨W.heap.size, 0, #[], rfl, h, heap_alloc_new _ _, Nat.le_refl _, Nat.zero_le _, rfl, rfl⟩⟩
theorem blk_lt {w : World} {b : Nat} {x : Obj} (h : w.heap[b]? = some x) : b < w.heap.size := (Array.getElem?_eq_some_iff.1 h).1
theorem wp_app_any {P : Program} {o : Oper} {a : Act} {w : World} {K : Act → World → Prop} {Q : Exit → Act → World → Prop} (s x : Operand) (t : TypeId)
    (ho : o.op = .call { callee := .builtin .append, args := #[s, x], argTypes := #[t, t] }) (base : Nat) (e : TypeId) (i : TypeInfo) (z : Value) (size bytes : Nat) (ht : P.underlying t = some (.slice e)) (hi : P.info? e = some i) (hz : i.zero = some z)
    (hsize : i.size = size) (hby : i.bytes = bytes) (hzs : z.cells.size = size) (hsz : 0 < size) (v : Value) (n : Nat) (xs : List Value) (hs : a.eval s = v) (hown : w.ownsRow base e size v n xs)
    (A : Option Addr) (m c : Nat) (news : List Value) (hx : a.eval x = .slice A m c) (hl : news.length = m * size) (hA : A = none → m = 0) (hnews : ∀ ad, A = some ad → ∀ j u, news[j]? = some u → w.cell? (ad.add j) = some u) (h1 : ∀ u ∈ news, u.oneCell' = true)
    (h63 : n + m ≤ maxLen) (hbytes : (n + m) * bytes ≤ 140737488355328) (hbase : base ≤ w.heap.size)
    (h : ∀ v' w', w'.ownsRow base e size v' (n + m) (xs ++ news) → w.grownBy w' v.ownBlock → K (a.put o.dst v') w') : o.wp P a w K Q := by
  cases A with
  | some ad =>
    obtain ⟨v', w', hr, h2, h3, h4⟩ := run_append_own (P := P) w base t o.type e i z size bytes ht hi hz hsize hby hzs hsz v n xs hown ad m c news hl (hnews ad rfl) h1 h63 hbytes hbase
    unfold Oper.wp execOp
    simp only [ho, resolve, invoke, builtin, Sem.run_bind, Sem.run_pure, Result.andThen_ok, List.map_toArray, List.map_cons, List.map_nil, hs, hx, hr]
    exact h v' w' h2 h3
  | none =>
    obtain rfl := hA rfl
    have hn : news = [] := List.eq_nil_of_length_eq_zero (by omega)
    subst hn
    have hrun : (Builtin.append_ #[t, t] o.type #[v, .slice none 0 c]).run P w = .ok v w := by
      rcases hown.2 with ⟨rfl, rfl⟩ | ⟨g, cap, cur, rfl, _, _, hnc, _⟩
      · simp [Builtin.append_, run_underlying ht, sizeOf, typeInfo, hi, Builtin.lenOf, Builtin.firstCells]
      · simp [Builtin.append_, run_underlying ht, sizeOf, typeInfo, hi, Builtin.lenOf, Builtin.firstCells, hnc, storeCells]
    unfold Oper.wp
    simp [execOp, ho, resolve, invoke, builtin, hs, hx, hrun, Result.andThen]
    exact h v w (by simpa using hown) (World.grownBy.refl w _)
set_option maxRecDepth 100000 in
set_option maxHeartbeats 8000000 in
theorem goes_walk (v : Value) (l : List En) (f keep : Int) (en : En) (w : World) (hl : RdE w w.heap.size v l) (_hn : l.length * 32 ≤ reachBytes) (hI : ∀ e ∈ l, e.2.1.length ≤ 9223372036854775807) (hcp : ∀ A m c, v = .slice A m c → m ≤ c) (hf : (Lit.int .i64 f).wf = true) (hk : (Lit.int .i64 keep).wf = true) (hE : en.2.1.length ≤ 9223372036854775807) :
    Calls Try.prog 7 #[v, .int .i64 f, .int .i64 keep, .agg (enR en).toArray] w fun e w' => e = .returned (.bool true) ∧ Below w.heap.size w w' := by
  have mixed : Try.prog.follows .mixedOrders = true := by kernel_rfl
  obtain ⟨i0, hi0, hz0, hz1, hz2⟩ := info_parts infoEn
  have HL := Lib.hid hl
  obtain ⟨A, c, rfl, hA, hnews⟩ := rdr_open hl
  rw [enC_len] at HL hA ⊢
  have hkb := wf_i64 hk
  have hfb := wf_i64 hf
  obtain ⟨n, hn'⟩ : ∃ n, l.length = n := ⟨_, rfl⟩
  have HN := Lib.hid hn'
  rw [hn'] at HL hA ⊢
  have HI := Lib.hid hI
  have HCP := Lib.hid (show l.length ≤ c by have := hcp _ _ _ rfl; rwa [enC_len] at this)
  have HEI := Lib.hid hE
  clear hn' hk hf hl hnews hI hcp hE
  obtain ⟨eq, eid, ea⟩ := en
  obtain ⟨XE, hXE⟩ : ∃ z, strOf eid = z := ⟨_, rfl⟩
  have HXS := Lib.hid hXE
  unfold enR
  simp only
  rw [hXE]
  have HR0 := Lib.hid (show (w.alloc (.cells #[.int .i64 eq, .string XE, .int .i64 ea] 26)).heap[w.heap.size]? = some (.cells #[.int .i64 eq, .string XE, .int .i64 ea] 26 (0, 0)) from heap_alloc_new _ _)
  have HB0 := Lib.hid (show Below w.heap.size w (w.alloc (.cells #[.int .i64 eq, .string XE, .int .i64 ea] 26)) from (Below.refl _ _).alloc (Nat.le_refl _) _)
  obtain ⟨W0, hW0⟩ : ∃ W0, W0 = w.alloc (.cells #[.int .i64 eq, .string XE, .int .i64 ea] 26) := ⟨_, rfl⟩
  rw [← hW0] at HR0 HB0
  have HS0 := Lib.hid (show w.heap.size < W0.heap.size by rw [hW0]; simp)
  have HW0 := Lib.hid hW0
  clear hW0 hXE
  by_cases h5 : n ≤ 300
  · have t0 : decide ((n : Int) > 300) = false := decide_eq_false (by omega)
    have t1 : decide ((300 : Int) < (n : Int)) = false := decide_eq_false (by omega)
    have t2 : decide (300 < n) = false := decide_eq_false (by omega)
    by_cases hf6 : f ≤ 1125899906842624
    · have u0 : decide ((f : Int) > 1125899906842624) = false := decide_eq_false (by omega)
      have u1 : decide ((1125899906842624 : Int) < f) = false := decide_eq_false (by omega)
      have hsum : IntKind.i64.wrap ((f : Int) + (n : Int)) = f + (n : Int) := IntWalk.i64_in _ (by omega)
      have C1 := Lib.hid (fun (W : World) (hb : Below w.heap.size w W) => pRight_any _ l f (f + (n : Int)) W (by rw [← HN.out] at HL; exact (HL.out.below hb).more hb.size) (by rw [HN.out]; omega) HI.out hfb (by omega))
      rw [HN.out] at C1
      cases hr : rightS l f (f + (n : Int)) with
      | false =>
        rw [hr] at C1
        clear hr
        go_enter Try.func7, Try.ntmps7
        go_wp2_with fail
        rw [← HW0.out]
        go_wp2_with fail
        refine (awake_any17 _).mono ?_
        rintro e w1 ⟨rfl, hb⟩
        have HB1 := Lib.hid (HB0.out.trans (hb.mono HB0.out.size))
        clear hb
        go_wp2_with fail
        refine (C1.out _ HB1.out).mono ?_
        rintro e w2 ⟨rfl, hb⟩
        have HB2 := Lib.hid (HB1.out.trans (hb.mono HB1.out.size))
        clear hb
        go_wp2_with fail
        refine (awake_any17 _).mono ?_
        rintro e w3 ⟨rfl, hb⟩
        have HB3 := Lib.hid (HB2.out.trans (hb.mono HB2.out.size))
        clear hb
        go_wp2_with fail
        go_ret
        exact ⟨rfl, HB3.out⟩
      | true =>
        have hf0 : 0 ≤ f := (right_is.1 hr).1.1
        rw [hr] at C1
        clear hr
        have hsum2 : IntKind.i64.wrap ((f : Int) + (n : Int) + 1) = f + (n : Int) + 1 := IntWalk.i64_in _ (by omega)
        go_enter Try.func7, Try.ntmps7
        go_wp2_with fail
        rw [← HW0.out]
        go_wp2_with fail
        refine (awake_any17 _).mono ?_
        rintro e w1 ⟨rfl, hb⟩
        have HB1 := Lib.hid (HB0.out.trans (hb.mono HB0.out.size))
        have HR1 := Lib.hid ((hb.block w.heap.size HS0.out).trans HR0.out)
        have HS1 := Lib.hid (Nat.lt_of_lt_of_le HS0.out hb.size)
        clear hb
        go_wp2_with fail
        refine (C1.out _ HB1.out).mono ?_
        rintro e w2 ⟨rfl, hb⟩
        have HB2 := Lib.hid (HB1.out.trans (hb.mono HB1.out.size))
        have HR2 := Lib.hid ((hb.block w.heap.size HS1.out).trans HR1.out)
        have HS2 := Lib.hid (Nat.lt_of_lt_of_le HS1.out hb.size)
        clear hb
        obtain ⟨y0, y1, y2⟩ := row3 HR2.out
        obtain ⟨z0, z1, z2⟩ := frz3 HR2.out
        obtain ⟨sq, hsq⟩ : ∃ sq : Int, sq = f + (n : Int) + 1 := ⟨_, rfl⟩
        have HSQ := Lib.hid hsq
        obtain ⟨w3, hw3⟩ : ∃ w3, w3 = w2.setCell ⟨w.heap.size, 0, none⟩ (.int .i64 sq) := ⟨_, rfl⟩
        have HB3 := Lib.hid (show Below w.heap.size w w3 by rw [hw3]; exact HB2.out.setCell (p := ⟨w.heap.size, 0, none⟩) (Nat.le_refl _) _)
        have HR3 := Lib.hid (show w3.heap[w.heap.size]? = some (.cells #[.int .i64 sq, .string XE, .int .i64 ea] 26 (0, 0)) by rw [hw3]; exact rowSet rfl HR2.out)
        have HS3 := Lib.hid (show w.heap.size < w3.heap.size by rw [hw3]; simpa using HS2.out)
        go_wp2_with fail
        rw [← hsq, ← hw3]
        clear hw3 hsq y0 y1 y2 z0 z1 z2
        have hl3 : (enC l).flatten.length = n * 3 := by rw [enC_flen, HN.out]
        have hone := enC_one l
        have SB := Lib.hid (fun (W : World) (hb : Below w3.heap.size w3 W) => row3 ((hb.block w.heap.size HS3.out).trans HR3.out))
        have HB30 := Lib.hid (show Below w3.heap.size w3 w3.drew from (Below.refl _ _).drew)
        have SL := Lib.hid (fun (W : World) (hb : Below w3.heap.size w3 W) => show ∀ ad, A = some ad → ∀ j u, (enC l).flatten[j]? = some u → W.cell? (ad.add j) = some u from fun ad e j u hu => by
          have hw := HB3.out.trans (hb.mono HB3.out.size)
          have h1 := (rdr_open ((by have h := HL.out; rw [← HN.out] at h; exact (h.below hw).more hw.size) : RdE W W.heap.size (.slice A l.length c) l))
          obtain ⟨A', c', e2, -, h2⟩ := h1
          injection e2 with e2 _ _
          subst e2
          exact h2 ad e j u hu)
        refine wp_region_held_drew (S := fun w' => w'.cell? ⟨w.heap.size, 0, none⟩ = some (.int .i64 sq) ∧ w'.cell? ⟨w.heap.size, 1, none⟩ = some (.string XE) ∧ w'.cell? ⟨w.heap.size, 2, none⟩ = some (.int .i64 ea)) (by kernel_rfl) (SB.out _ HB30.out) (fun hHeld => ?_)
        refine wpAnyH_take (i := 1) (oi := { dst := some 41, op := Op.move (Operand.tmp 0), type := 22, pos := "law.go:97", after := #[], guard := none }) (v := ?_) rfl (by kernel_rfl) (by kernel_rfl) (by kernel_rfl) (fun _ _ _ h => h) (Or.inl ⟨by rfl, ?_⟩) hHeld ?_
        rotate_left
        · intro w hSw; (try dsimp only at hSw); go_simp; with_reducible rfl
        try simp only [Act.put, List.setIfInBounds_toArray, List.set_cons_zero, List.set_cons_succ]
        refine wpAnyH_take (i := 3) (oi := { dst := some 43, op := Op.load 26 (Operand.tmp 7), type := 26, pos := "law.go:97", after := #[], guard := none }) (v := ?_) rfl (by kernel_rfl) (by kernel_rfl) (by kernel_rfl) (fun _ _ _ h => h) (Or.inl ⟨by rfl, ?_⟩) hHeld ?_
        rotate_left
        · intro w hSw; (try dsimp only at hSw); go_simp; with_reducible rfl
        try simp only [Act.put, List.setIfInBounds_toArray, List.set_cons_zero, List.set_cons_succ]
        obtain ⟨U0, hU0⟩ : ∃ U, U = w3.drew := ⟨_, rfl⟩
        rw [← hU0] at HB30 ⊢
        have HBU0 := HB30
        clear hU0 HB30
        refine wpAnyH_ready (rs := [0, 4]) (by kernel_rfl) (by simp) ?_
        refine AllReadyH.cons (o := { dst := some 40, op := Op.buildSlice 22 0 #[], type := 22, pos := "law.go:97", after := #[], guard := none }) rfl (fun K hK => ?_) (AllReadyH.cons (o := { dst := some 44, op := Op.buildSlice 22 1 #[(0, Operand.tmp 43)], type := 22, pos := "law.go:97", after := #[{ on := 3, ground := Ground.data }], guard := none }) rfl (fun K hK => ?_) AllReadyH.nil)
        · go_simp
          refine hK.out _ _ (SB.out _ (HBU0.out.alloc HBU0.out.size _)) (fun hHeld => ?_)
          clear hK K
          try simp only [Act.put, List.setIfInBounds_toArray, List.set_cons_zero, List.set_cons_succ]
          obtain ⟨U1, hU1⟩ : ∃ U, U = U0.alloc (.cells #[] 26) := ⟨_, rfl⟩
          rw [← hU1]
          have HBU1 := Lib.hid (show Below w3.heap.size w3 U1 by rw [hU1]; exact HBU0.out.alloc HBU0.out.size _)
          have OE := Lib.hid (show U1.ownsRow w3.heap.size 26 3 (.slice (some ⟨U0.heap.size, 0, none⟩) 0 0) 0 [] by rw [hU1]; exact own_empty HBU0.out.size)
          clear hU1
          refine wpAnyH_ready (rs := [2, 4]) (by kernel_rfl) (by simp) ?_
          refine AllReadyH.cons (o := { dst := some 42, op := Op.call { callee := Callee.builtin Builtin.append, args := #[Operand.tmp 40, Operand.tmp 41], argTypes := #[22, 22] }, type := 22, pos := "law.go:97", after := #[{ on := 0, ground := Ground.data }, { on := 1, ground := Ground.data }], guard := none }) rfl (fun K hK => ?_) (AllReadyH.cons (o := { dst := some 44, op := Op.buildSlice 22 1 #[(0, Operand.tmp 43)], type := 22, pos := "law.go:97", after := #[{ on := 3, ground := Ground.data }], guard := none }) rfl (fun K hK => ?_) AllReadyH.nil)
          · refine wp_app_any _ _ 22 rfl w3.heap.size 26 i0 _ 3 32 Try.underlying22 hi0 hz0 hz1 hz2 (by rfl) (by decide) (.slice (some ⟨U0.heap.size, 0, none⟩) 0 0) 0 [] rfl OE.out A n c (enC l).flatten rfl hl3 hA (SL.out _ HBU1.out) hone (by unfold maxLen; omega) (by omega) HBU1.out.size ?_
            intro v8 U2 hown8 hg8
            have HBU2 := Lib.hid (show Below w3.heap.size w3 U2 from HBU1.out.grown hg8 HBU1.out.size (fun k hk => (OE.out.lt k hk).1))
            refine hK.out _ _ (SB.out _ HBU2.out) (fun hHeld => ?_)
            clear hK K
            try simp only [Act.put, List.setIfInBounds_toArray, List.set_cons_zero, List.set_cons_succ]
            rw [Nat.zero_add, List.nil_append] at hown8
            have ON := Lib.hid hown8
            clear hown8 hg8
            refine wpAnyH_ready (rs := [4]) (by kernel_rfl) (by simp) ?_
            refine AllReadyH.cons (o := { dst := some 44, op := Op.buildSlice 22 1 #[(0, Operand.tmp 43)], type := 22, pos := "law.go:97", after := #[{ on := 3, ground := Ground.data }], guard := none }) rfl (fun K hK => ?_) AllReadyH.nil
            go_simp
            refine hK.out _ _ (SB.out _ (HBU2.out.alloc HBU2.out.size _)) (fun hHeld => ?_)
            clear hK K
            try simp only [Act.put, List.setIfInBounds_toArray, List.set_cons_zero, List.set_cons_succ]
            obtain ⟨U3, hU3⟩ : ∃ U, U = U2.alloc (.cells #[.int .i64 sq, .string XE, .int .i64 ea] 26) := ⟨_, rfl⟩
            rw [← hU3]
            have HBU3 := Lib.hid (show Below w3.heap.size w3 U3 by rw [hU3]; exact HBU2.out.alloc HBU2.out.size _)
            have HX4 := Lib.hid (show U3.heap[U2.heap.size]? = some (.cells #[.int .i64 sq, .string XE, .int .i64 ea] 26 (0, 0)) by rw [hU3]; exact heap_alloc_new _ _)
            have ON := Lib.hid (show U3.ownsRow w3.heap.size 26 3 v8 n (enC l).flatten by rw [hU3]; exact ON.out.alloc _)
            clear hU3
            refine wpAnyH_ready (rs := [5]) (by kernel_rfl) (by simp) ?_
            refine AllReadyH.cons (o := { dst := some 45, op := Op.call { callee := Callee.builtin Builtin.append, args := #[Operand.tmp 42, Operand.tmp 44], argTypes := #[22, 22] }, type := 22, pos := "law.go:97", after := #[{ on := 2, ground := Ground.data }, { on := 4, ground := Ground.data }, { on := 2, ground := Ground.chain }], guard := none }) rfl (fun K hK => ?_) AllReadyH.nil
            refine wp_append_lies _ _ _ _ rfl w3.heap.size 26 i0 _ 3 32 Try.underlying22 hi0 hz0 hz1 hz2 rfl (by decide) v8 n (enC l).flatten rfl ON.out ⟨U2.heap.size, 0, none⟩ 1 1 [.int .i64 sq, .string XE, .int .i64 ea] rfl rfl (World.news_of_block (cs := #[.int .i64 sq, .string XE, .int .i64 ea]) (t := 26) (fr := (0, 0)) HX4.out) (by intro u hu; simp at hu; rcases hu with rfl | rfl | rfl <;> rfl) (by omega) (by unfold maxLen; omega) (by omega) HBU3.out.size _ rfl ?_
            intro gb cap w4 hown9 hg9 hat9 hgl9
            have HB4 := Lib.hid (show Below w3.heap.size w3 w4 from HBU3.out.grown hg9 HBU3.out.size (fun k hk => (ON.out.lt k hk).1))
            have HO4 := Lib.hid (show w4.ownsRow w3.heap.size 26 3 (.slice (some ⟨gb, 0, none⟩) (n + 1) cap) (n + 1) (enC (l ++ [(sq, eid, ea)])).flatten by
              rw [enC_app]
              have e : (enC [(sq, eid, ea)]).flatten = [.int .i64 sq, .string XE, .int .i64 ea] := by rw [← HXS.out]; rfl
              rw [e]
              exact hown9)
            refine hK.out _ _ (SB.out _ HB4.out) (fun hHeld => ?_)
            clear hK K
            try simp only [Act.put, List.setIfInBounds_toArray, List.set_cons_zero, List.set_cons_succ]
            clear hown9 hg9 hat9 hgl9
            refine wpAnyH_ready (rs := [6]) (by kernel_rfl) (by simp) ?_
            refine AllReadyH.cons (o := { dst := some 9, op := Op.assign (Operand.tmp 45), type := 22, pos := "law.go:97", after := #[{ on := 5, ground := Ground.data }, { on := 5, ground := Ground.chain }, { on := 0, ground := Ground.phase }, { on := 1, ground := Ground.phase }, { on := 2, ground := Ground.phase }, { on := 3, ground := Ground.phase }, { on := 4, ground := Ground.phase }, { on := 5, ground := Ground.phase }], guard := none }) rfl (fun K hK => ?_) AllReadyH.nil
            go_simp
            refine hK.out _ _ (SB.out _ HB4.out) (fun hHeld => ?_)
            clear hK K
            try simp only [Act.put, List.setIfInBounds_toArray, List.set_cons_zero, List.set_cons_succ]
            refine wpAnyH_done (by kernel_rfl) ?_ _
            clear hHeld
            have HBW := Lib.hid (HB3.out.trans (HB4.out.mono HB3.out.size))
            have HR4 := Lib.hid ((HB4.out.block w.heap.size HS3.out).trans HR3.out)
            have HS4 := Lib.hid (Nat.lt_of_lt_of_le HS3.out HB4.out.size)
            have HAN := Lib.hid (show (l ++ [(sq, eid, ea)]).length = n + 1 by rw [List.length_append, HN.out]; rfl)
            have HAL := Lib.hid (show RdE w4 w4.heap.size (.slice (some ⟨gb, 0, none⟩) (n + 1) cap) (l ++ [(sq, eid, ea)]) from rde_own (by rw [HAN.out]; exact HO4.out))
            have HIA := Lib.hid (show ∀ x ∈ l ++ [(sq, eid, ea)], x.2.1.length ≤ 9223372036854775807 from fun x hx => by rcases List.mem_append.1 hx with h | h; exact HI.out x h; rw [List.mem_singleton.1 h]; exact HEI.out)
            have CR := Lib.hid (fun (W : World) (hb : Below w4.heap.size w4 W) => pRight_any _ (l ++ [(sq, eid, ea)]) f sq W ((HAL.out.below hb).more hb.size) (by rw [HAN.out]; omega) HIA.out hfb (by have := HSQ.out; omega))
            clear HX4 ON OE
            try clear HEF
            obtain ⟨y0, y1, y2⟩ := row3 HR4.out
            cases hr2 : rightS (l ++ [(sq, eid, ea)]) f sq with
            | false =>
              rw [hr2] at CR
              clear hr2
              go_wp2_with fail
              refine (CR.out _ (Below.refl _ _)).mono ?_
              rintro e w5 ⟨rfl, hb⟩
              have HB5 := Lib.hid (HBW.out.trans (hb.mono HBW.out.size))
              clear hb
              go_wp2_with fail
              go_ret
              exact ⟨rfl, HB5.out⟩
            | true =>
              have HRT := Lib.hid (show rightS (l ++ [(sq, eid, ea)]) f (f + (l.length : Int) + 1) = true by rw [HN.out, ← HSQ.out]; exact hr2)
              rw [hr2] at CR
              clear hr2
              have hff : f ≤ flrS l f keep (sq, eid, ea) := goes_floor HRT.out
              have hfu : flrS l f keep (sq, eid, ea) ≤ 9007199254740991 := by
                have h := (right_is.1 (goes_right (keep := keep) HRT.out)).1
                omega
              have CM := Lib.hid (goes_right (keep := keep) HRT.out)
              have CS := Lib.hid (goes_same (keep := keep) HRT.out)
              have hml : (outS l keep (sq, eid, ea)).length ≤ n + 1 := by have := out_len l keep (sq, eid, ea); rw [HN.out] at this; exact this
              have hmk : (outS l keep (sq, eid, ea)).length ≤ keep.toNat := goes_len
              have CA := Lib.hid (fun (W : World) (hb : Below w4.heap.size w4 W) => pAdd_any _ l f keep (sq, eid, ea) W (by have hw := HBW.out.trans (hb.mono HBW.out.size); have h := HL.out; rw [← HN.out] at h; exact (h.below hw).more hw.size) (by rw [HN.out]; omega) hkb (fun _ _ _ h => by injection h with h1 h2 h3; have := HCP.out; omega))
              rw [HN.out, ← HSQ.out] at CM
              unfold GivesAd at CA
              have HIM := Lib.hid (show ∀ x ∈ outS l keep (sq, eid, ea), x.2.1.length ≤ 9223372036854775807 from fun x hx => HIA.out x (List.mem_of_mem_drop hx))
              obtain ⟨M, hM⟩ : ∃ M, outS l keep (sq, eid, ea) = M := ⟨_, rfl⟩
              obtain ⟨fl, hfl⟩ : ∃ fl, flrS l f keep (sq, eid, ea) = fl := ⟨_, rfl⟩
              simp only [hM, hfl, HN.out] at CA
              rw [hM, hfl] at CM CS
              rw [hfl] at hff hfu
              rw [hM] at hml hmk HIM
              unfold enR at CA
              simp only [HXS.out] at CA
              clear hM hfl
              go_wp2_with fail
              refine (CR.out _ (Below.refl _ _)).mono ?_
              rintro e w5 ⟨rfl, hb⟩
              have HB5 := Lib.hid hb
              have HR5 := Lib.hid ((hb.block w.heap.size HS4.out).trans HR4.out)
              clear hb y0 y1 y2
              obtain ⟨y0, y1, y2⟩ := row3 HR5.out
              go_wp2_with fail
              refine (CA.out _ HB5.out).mono ?_
              rintro e w6 ⟨xm, rfl, hr, hb⟩
              have HRM := Lib.hid (rde_own hr)
              obtain ⟨Am, cm, rfl⟩ := own_slice hr
              have HB6 := Lib.hid (HB5.out.trans (hb.mono HB5.out.size))
              have HR6 := Lib.hid ((HB6.out.block w.heap.size HS4.out).trans HR4.out)
              clear hb hr y0 y1 y2
              obtain ⟨y0, y1, y2⟩ := row3 HR6.out
              have CN := Lib.hid (pRight_any _ M fl sq w6 HRM.out (by omega) HIM.out (by omega) (by have := HSQ.out; omega))
              rw [CM.out] at CN
              have CT := Lib.hid (fun (W : World) (hb : Below w6.heap.size w6 W) => pSince_any _ M fl W ((HRM.out.below hb).more hb.size) (by omega) HIM.out)
              have CU := Lib.hid (fun (W : World) (hb : Below w4.heap.size w4 W) => pSince_any _ (l ++ [(sq, eid, ea)]) fl W ((HAL.out.below hb).more hb.size) (by rw [HAN.out]; omega) HIA.out)
              have HSL := Lib.hid (show (sinS M fl).length ≤ 1000 from Nat.le_trans (sin_len M fl) (by omega))
              unfold GivesSn at CT CU
              simp only [← CS.out] at CU
              obtain ⟨P, hP⟩ : ∃ P, sinS M fl = P := ⟨_, rfl⟩
              simp only [hP] at CT CU HSL
              clear hP
              obtain ⟨nm, hnm⟩ : ∃ x, M.length = x := ⟨_, rfl⟩
              rw [hnm] at CN CT hml hmk HRM ⊢
              have HNM := Lib.hid hnm
              clear hnm
              have v0 : decide ((fl : Int) ≥ f) = true := decide_eq_true (by omega)
              have v1 : decide ((f : Int) ≤ fl) = true := decide_eq_true hff
              rcases Int.lt_or_le keep 0 with hk0 | hk0
              · have v3 : max keep 0 = 0 := by omega
                have v4 : decide ((0 : Int) ≤ keep) = false := decide_eq_false (by omega)
                have v5 : ¬ (0 : Int) ≤ keep := by omega
                obtain rfl : nm = 0 := by omega
                go_wp2_with fail
                refine (CN.out).mono ?_
                rintro e w7 ⟨rfl, hb⟩
                have HB7 := Lib.hid hb
                clear hb y0 y1 y2
                go_wp2_with fail
                refine (CT.out _ HB7.out).mono ?_
                rintro e w8 ⟨x8, rfl, hr, hb⟩
                have HP8 := Lib.hid (rdp_own hr)
                have HB8 := Lib.hid (HB7.out.trans (hb.mono HB7.out.size))
                clear hr hb
                go_wp2_with fail
                refine (pasts_any _ _ _ HP8.out (by have := HSL.out; omega)).mono ?_
                rintro e w9 ⟨x9, rfl, hr, hb⟩
                have HQ := Lib.hid (rdp_own hr)
                have HB9 := Lib.hid (HB8.out.trans (hb.mono HB8.out.size))
                have HBX := Lib.hid (HB6.out.trans (HB9.out.mono HB6.out.size))
                clear hr hb HP8
                go_wp2_with fail
                refine (CU.out _ HBX.out).mono ?_
                rintro e w10 ⟨x10, rfl, hr, hb⟩
                have HP8 := Lib.hid (rdp_own hr)
                have HQ := Lib.hid ((HQ.out.below hb).more hb.size)
                have HBX := Lib.hid (HBX.out.trans (hb.mono HBX.out.size))
                clear hr hb
                go_wp2_with fail
                refine (pasts_any _ _ _ HP8.out (by have := HSL.out; omega)).mono ?_
                rintro e w11 ⟨x11, rfl, hr, hb⟩
                have HQ2 := Lib.hid (rdp_own hr)
                have HQ := Lib.hid ((HQ.out.below hb).more hb.size)
                have HBX := Lib.hid (HBX.out.trans (hb.mono HBX.out.size))
                clear hr hb
                go_wp2_with fail
                refine (rSame_any _ _ _ _ _ HQ.out HQ2.out (by have := HSL.out; omega)).mono ?_
                rintro e w12 ⟨⟨b, rfl, hx⟩, hb⟩
                obtain rfl : b = true := hx.2 rfl
                have HBX := Lib.hid (HBX.out.trans (hb.mono HBX.out.size))
                have HBZ := Lib.hid (HBW.out.trans (HBX.out.mono HBW.out.size))
                clear hx hb
                go_wp2_with fail
                go_ret
                exact ⟨rfl, HBZ.out⟩
              · have v3 : max keep 0 = keep := by omega
                have v4 : decide (keep < 0) = false := decide_eq_false (by omega)
                have v5 : ¬ keep < 0 := by omega
                have v6 : (nm : Int) ≤ keep := by omega
                have v7 : decide ((nm : Int) ≤ keep) = true := decide_eq_true v6
                go_wp2_with fail
                refine (CN.out).mono ?_
                rintro e w7 ⟨rfl, hb⟩
                have HB7 := Lib.hid hb
                clear hb y0 y1 y2
                go_wp2_with fail
                refine (CT.out _ HB7.out).mono ?_
                rintro e w8 ⟨x8, rfl, hr, hb⟩
                have HP8 := Lib.hid (rdp_own hr)
                have HB8 := Lib.hid (HB7.out.trans (hb.mono HB7.out.size))
                clear hr hb
                go_wp2_with fail
                refine (pasts_any _ _ _ HP8.out (by have := HSL.out; omega)).mono ?_
                rintro e w9 ⟨x9, rfl, hr, hb⟩
                have HQ := Lib.hid (rdp_own hr)
                have HB9 := Lib.hid (HB8.out.trans (hb.mono HB8.out.size))
                have HBX := Lib.hid (HB6.out.trans (HB9.out.mono HB6.out.size))
                clear hr hb HP8
                go_wp2_with fail
                refine (CU.out _ HBX.out).mono ?_
                rintro e w10 ⟨x10, rfl, hr, hb⟩
                have HP8 := Lib.hid (rdp_own hr)
                have HQ := Lib.hid ((HQ.out.below hb).more hb.size)
                have HBX := Lib.hid (HBX.out.trans (hb.mono HBX.out.size))
                clear hr hb
                go_wp2_with fail
                refine (pasts_any _ _ _ HP8.out (by have := HSL.out; omega)).mono ?_
                rintro e w11 ⟨x11, rfl, hr, hb⟩
                have HQ2 := Lib.hid (rdp_own hr)
                have HQ := Lib.hid ((HQ.out.below hb).more hb.size)
                have HBX := Lib.hid (HBX.out.trans (hb.mono HBX.out.size))
                clear hr hb
                go_wp2_with fail
                refine (rSame_any _ _ _ _ _ HQ.out HQ2.out (by have := HSL.out; omega)).mono ?_
                rintro e w12 ⟨⟨b, rfl, hx⟩, hb⟩
                obtain rfl : b = true := hx.2 rfl
                have HBX := Lib.hid (HBX.out.trans (hb.mono HBX.out.size))
                have HBZ := Lib.hid (HBW.out.trans (HBX.out.mono HBW.out.size))
                clear hx hb
                go_wp2_with fail
                go_ret
                exact ⟨rfl, HBZ.out⟩
          · go_simp
            refine hK.out _ _ (SB.out _ (HBU1.out.alloc HBU1.out.size _)) (fun hHeld => ?_)
            clear hK K
            try simp only [Act.put, List.setIfInBounds_toArray, List.set_cons_zero, List.set_cons_succ]
            obtain ⟨U2, hU2⟩ : ∃ U, U = U1.alloc (.cells #[.int .i64 sq, .string XE, .int .i64 ea] 26) := ⟨_, rfl⟩
            rw [← hU2]
            have HBU2 := Lib.hid (show Below w3.heap.size w3 U2 by rw [hU2]; exact HBU1.out.alloc HBU1.out.size _)
            have HX4 := Lib.hid (show U2.heap[U1.heap.size]? = some (.cells #[.int .i64 sq, .string XE, .int .i64 ea] 26 (0, 0)) by rw [hU2]; exact heap_alloc_new _ _)
            have hlt := (OE.out.lt U0.heap.size rfl).2
            have HEF := Lib.hid (show some U1.heap.size ≠ some U0.heap.size from fun e => by injection e with e; omega)
            have OE := Lib.hid (show U2.ownsRow w3.heap.size 26 3 (.slice (some ⟨U0.heap.size, 0, none⟩) 0 0) 0 [] by rw [hU2]; exact OE.out.alloc _)
            clear hlt
            clear hU2
            refine wpAnyH_ready (rs := [2]) (by kernel_rfl) (by simp) ?_
            refine AllReadyH.cons (o := { dst := some 42, op := Op.call { callee := Callee.builtin Builtin.append, args := #[Operand.tmp 40, Operand.tmp 41], argTypes := #[22, 22] }, type := 22, pos := "law.go:97", after := #[{ on := 0, ground := Ground.data }, { on := 1, ground := Ground.data }], guard := none }) rfl (fun K hK => ?_) AllReadyH.nil
            refine wp_app_any _ _ 22 rfl w3.heap.size 26 i0 _ 3 32 Try.underlying22 hi0 hz0 hz1 hz2 (by rfl) (by decide) (.slice (some ⟨U0.heap.size, 0, none⟩) 0 0) 0 [] rfl OE.out A n c (enC l).flatten rfl hl3 hA (SL.out _ HBU2.out) hone (by unfold maxLen; omega) (by omega) HBU2.out.size ?_
            intro v8 U3 hown8 hg8
            have HBU3 := Lib.hid (show Below w3.heap.size w3 U3 from HBU2.out.grown hg8 HBU2.out.size (fun k hk => (OE.out.lt k hk).1))
            refine hK.out _ _ (SB.out _ HBU3.out) (fun hHeld => ?_)
            clear hK K
            try simp only [Act.put, List.setIfInBounds_toArray, List.set_cons_zero, List.set_cons_succ]
            rw [Nat.zero_add, List.nil_append] at hown8
            have ON := Lib.hid hown8
            have HX4 := Lib.hid (show U3.heap[U1.heap.size]? = some (.cells #[.int .i64 sq, .string XE, .int .i64 ea] 26 (0, 0)) from (hg8.block _ (blk_lt HX4.out) HEF.out).trans HX4.out)
            clear hown8 hg8
            refine wpAnyH_ready (rs := [5]) (by kernel_rfl) (by simp) ?_
            refine AllReadyH.cons (o := { dst := some 45, op := Op.call { callee := Callee.builtin Builtin.append, args := #[Operand.tmp 42, Operand.tmp 44], argTypes := #[22, 22] }, type := 22, pos := "law.go:97", after := #[{ on := 2, ground := Ground.data }, { on := 4, ground := Ground.data }, { on := 2, ground := Ground.chain }], guard := none }) rfl (fun K hK => ?_) AllReadyH.nil
            refine wp_append_lies _ _ _ _ rfl w3.heap.size 26 i0 _ 3 32 Try.underlying22 hi0 hz0 hz1 hz2 rfl (by decide) v8 n (enC l).flatten rfl ON.out ⟨U1.heap.size, 0, none⟩ 1 1 [.int .i64 sq, .string XE, .int .i64 ea] rfl rfl (World.news_of_block (cs := #[.int .i64 sq, .string XE, .int .i64 ea]) (t := 26) (fr := (0, 0)) HX4.out) (by intro u hu; simp at hu; rcases hu with rfl | rfl | rfl <;> rfl) (by omega) (by unfold maxLen; omega) (by omega) HBU3.out.size _ rfl ?_
            intro gb cap w4 hown9 hg9 hat9 hgl9
            have HB4 := Lib.hid (show Below w3.heap.size w3 w4 from HBU3.out.grown hg9 HBU3.out.size (fun k hk => (ON.out.lt k hk).1))
            have HO4 := Lib.hid (show w4.ownsRow w3.heap.size 26 3 (.slice (some ⟨gb, 0, none⟩) (n + 1) cap) (n + 1) (enC (l ++ [(sq, eid, ea)])).flatten by
              rw [enC_app]
              have e : (enC [(sq, eid, ea)]).flatten = [.int .i64 sq, .string XE, .int .i64 ea] := by rw [← HXS.out]; rfl
              rw [e]
              exact hown9)
            refine hK.out _ _ (SB.out _ HB4.out) (fun hHeld => ?_)
            clear hK K
            try simp only [Act.put, List.setIfInBounds_toArray, List.set_cons_zero, List.set_cons_succ]
            clear hown9 hg9 hat9 hgl9
            refine wpAnyH_ready (rs := [6]) (by kernel_rfl) (by simp) ?_
            refine AllReadyH.cons (o := { dst := some 9, op := Op.assign (Operand.tmp 45), type := 22, pos := "law.go:97", after := #[{ on := 5, ground := Ground.data }, { on := 5, ground := Ground.chain }, { on := 0, ground := Ground.phase }, { on := 1, ground := Ground.phase }, { on := 2, ground := Ground.phase }, { on := 3, ground := Ground.phase }, { on := 4, ground := Ground.phase }, { on := 5, ground := Ground.phase }], guard := none }) rfl (fun K hK => ?_) AllReadyH.nil
            go_simp
            refine hK.out _ _ (SB.out _ HB4.out) (fun hHeld => ?_)
            clear hK K
            try simp only [Act.put, List.setIfInBounds_toArray, List.set_cons_zero, List.set_cons_succ]
            refine wpAnyH_done (by kernel_rfl) ?_ _
            clear hHeld
            have HBW := Lib.hid (HB3.out.trans (HB4.out.mono HB3.out.size))
            have HR4 := Lib.hid ((HB4.out.block w.heap.size HS3.out).trans HR3.out)
            have HS4 := Lib.hid (Nat.lt_of_lt_of_le HS3.out HB4.out.size)
            have HAN := Lib.hid (show (l ++ [(sq, eid, ea)]).length = n + 1 by rw [List.length_append, HN.out]; rfl)
            have HAL := Lib.hid (show RdE w4 w4.heap.size (.slice (some ⟨gb, 0, none⟩) (n + 1) cap) (l ++ [(sq, eid, ea)]) from rde_own (by rw [HAN.out]; exact HO4.out))
            have HIA := Lib.hid (show ∀ x ∈ l ++ [(sq, eid, ea)], x.2.1.length ≤ 9223372036854775807 from fun x hx => by rcases List.mem_append.1 hx with h | h; exact HI.out x h; rw [List.mem_singleton.1 h]; exact HEI.out)
            have CR := Lib.hid (fun (W : World) (hb : Below w4.heap.size w4 W) => pRight_any _ (l ++ [(sq, eid, ea)]) f sq W ((HAL.out.below hb).more hb.size) (by rw [HAN.out]; omega) HIA.out hfb (by have := HSQ.out; omega))
            clear HX4 ON OE
            try clear HEF
            obtain ⟨y0, y1, y2⟩ := row3 HR4.out
            cases hr2 : rightS (l ++ [(sq, eid, ea)]) f sq with
            | false =>
              rw [hr2] at CR
              clear hr2
              go_wp2_with fail
              refine (CR.out _ (Below.refl _ _)).mono ?_
              rintro e w5 ⟨rfl, hb⟩
              have HB5 := Lib.hid (HBW.out.trans (hb.mono HBW.out.size))
              clear hb
              go_wp2_with fail
              go_ret
              exact ⟨rfl, HB5.out⟩
            | true =>
              have HRT := Lib.hid (show rightS (l ++ [(sq, eid, ea)]) f (f + (l.length : Int) + 1) = true by rw [HN.out, ← HSQ.out]; exact hr2)
              rw [hr2] at CR
              clear hr2
              have hff : f ≤ flrS l f keep (sq, eid, ea) := goes_floor HRT.out
              have hfu : flrS l f keep (sq, eid, ea) ≤ 9007199254740991 := by
                have h := (right_is.1 (goes_right (keep := keep) HRT.out)).1
                omega
              have CM := Lib.hid (goes_right (keep := keep) HRT.out)
              have CS := Lib.hid (goes_same (keep := keep) HRT.out)
              have hml : (outS l keep (sq, eid, ea)).length ≤ n + 1 := by have := out_len l keep (sq, eid, ea); rw [HN.out] at this; exact this
              have hmk : (outS l keep (sq, eid, ea)).length ≤ keep.toNat := goes_len
              have CA := Lib.hid (fun (W : World) (hb : Below w4.heap.size w4 W) => pAdd_any _ l f keep (sq, eid, ea) W (by have hw := HBW.out.trans (hb.mono HBW.out.size); have h := HL.out; rw [← HN.out] at h; exact (h.below hw).more hw.size) (by rw [HN.out]; omega) hkb (fun _ _ _ h => by injection h with h1 h2 h3; have := HCP.out; omega))
              rw [HN.out, ← HSQ.out] at CM
              unfold GivesAd at CA
              have HIM := Lib.hid (show ∀ x ∈ outS l keep (sq, eid, ea), x.2.1.length ≤ 9223372036854775807 from fun x hx => HIA.out x (List.mem_of_mem_drop hx))
              obtain ⟨M, hM⟩ : ∃ M, outS l keep (sq, eid, ea) = M := ⟨_, rfl⟩
              obtain ⟨fl, hfl⟩ : ∃ fl, flrS l f keep (sq, eid, ea) = fl := ⟨_, rfl⟩
              simp only [hM, hfl, HN.out] at CA
              rw [hM, hfl] at CM CS
              rw [hfl] at hff hfu
              rw [hM] at hml hmk HIM
              unfold enR at CA
              simp only [HXS.out] at CA
              clear hM hfl
              go_wp2_with fail
              refine (CR.out _ (Below.refl _ _)).mono ?_
              rintro e w5 ⟨rfl, hb⟩
              have HB5 := Lib.hid hb
              have HR5 := Lib.hid ((hb.block w.heap.size HS4.out).trans HR4.out)
              clear hb y0 y1 y2
              obtain ⟨y0, y1, y2⟩ := row3 HR5.out
              go_wp2_with fail
              refine (CA.out _ HB5.out).mono ?_
              rintro e w6 ⟨xm, rfl, hr, hb⟩
              have HRM := Lib.hid (rde_own hr)
              obtain ⟨Am, cm, rfl⟩ := own_slice hr
              have HB6 := Lib.hid (HB5.out.trans (hb.mono HB5.out.size))
              have HR6 := Lib.hid ((HB6.out.block w.heap.size HS4.out).trans HR4.out)
              clear hb hr y0 y1 y2
              obtain ⟨y0, y1, y2⟩ := row3 HR6.out
              have CN := Lib.hid (pRight_any _ M fl sq w6 HRM.out (by omega) HIM.out (by omega) (by have := HSQ.out; omega))
              rw [CM.out] at CN
              have CT := Lib.hid (fun (W : World) (hb : Below w6.heap.size w6 W) => pSince_any _ M fl W ((HRM.out.below hb).more hb.size) (by omega) HIM.out)
              have CU := Lib.hid (fun (W : World) (hb : Below w4.heap.size w4 W) => pSince_any _ (l ++ [(sq, eid, ea)]) fl W ((HAL.out.below hb).more hb.size) (by rw [HAN.out]; omega) HIA.out)
              have HSL := Lib.hid (show (sinS M fl).length ≤ 1000 from Nat.le_trans (sin_len M fl) (by omega))
              unfold GivesSn at CT CU
              simp only [← CS.out] at CU
              obtain ⟨P, hP⟩ : ∃ P, sinS M fl = P := ⟨_, rfl⟩
              simp only [hP] at CT CU HSL
              clear hP
              obtain ⟨nm, hnm⟩ : ∃ x, M.length = x := ⟨_, rfl⟩
              rw [hnm] at CN CT hml hmk HRM ⊢
              have HNM := Lib.hid hnm
              clear hnm
              have v0 : decide ((fl : Int) ≥ f) = true := decide_eq_true (by omega)
              have v1 : decide ((f : Int) ≤ fl) = true := decide_eq_true hff
              rcases Int.lt_or_le keep 0 with hk0 | hk0
              · have v3 : max keep 0 = 0 := by omega
                have v4 : decide ((0 : Int) ≤ keep) = false := decide_eq_false (by omega)
                have v5 : ¬ (0 : Int) ≤ keep := by omega
                obtain rfl : nm = 0 := by omega
                go_wp2_with fail
                refine (CN.out).mono ?_
                rintro e w7 ⟨rfl, hb⟩
                have HB7 := Lib.hid hb
                clear hb y0 y1 y2
                go_wp2_with fail
                refine (CT.out _ HB7.out).mono ?_
                rintro e w8 ⟨x8, rfl, hr, hb⟩
                have HP8 := Lib.hid (rdp_own hr)
                have HB8 := Lib.hid (HB7.out.trans (hb.mono HB7.out.size))
                clear hr hb
                go_wp2_with fail
                refine (pasts_any _ _ _ HP8.out (by have := HSL.out; omega)).mono ?_
                rintro e w9 ⟨x9, rfl, hr, hb⟩
                have HQ := Lib.hid (rdp_own hr)
                have HB9 := Lib.hid (HB8.out.trans (hb.mono HB8.out.size))
                have HBX := Lib.hid (HB6.out.trans (HB9.out.mono HB6.out.size))
                clear hr hb HP8
                go_wp2_with fail
                refine (CU.out _ HBX.out).mono ?_
                rintro e w10 ⟨x10, rfl, hr, hb⟩
                have HP8 := Lib.hid (rdp_own hr)
                have HQ := Lib.hid ((HQ.out.below hb).more hb.size)
                have HBX := Lib.hid (HBX.out.trans (hb.mono HBX.out.size))
                clear hr hb
                go_wp2_with fail
                refine (pasts_any _ _ _ HP8.out (by have := HSL.out; omega)).mono ?_
                rintro e w11 ⟨x11, rfl, hr, hb⟩
                have HQ2 := Lib.hid (rdp_own hr)
                have HQ := Lib.hid ((HQ.out.below hb).more hb.size)
                have HBX := Lib.hid (HBX.out.trans (hb.mono HBX.out.size))
                clear hr hb
                go_wp2_with fail
                refine (rSame_any _ _ _ _ _ HQ.out HQ2.out (by have := HSL.out; omega)).mono ?_
                rintro e w12 ⟨⟨b, rfl, hx⟩, hb⟩
                obtain rfl : b = true := hx.2 rfl
                have HBX := Lib.hid (HBX.out.trans (hb.mono HBX.out.size))
                have HBZ := Lib.hid (HBW.out.trans (HBX.out.mono HBW.out.size))
                clear hx hb
                go_wp2_with fail
                go_ret
                exact ⟨rfl, HBZ.out⟩
              · have v3 : max keep 0 = keep := by omega
                have v4 : decide (keep < 0) = false := decide_eq_false (by omega)
                have v5 : ¬ keep < 0 := by omega
                have v6 : (nm : Int) ≤ keep := by omega
                have v7 : decide ((nm : Int) ≤ keep) = true := decide_eq_true v6
                go_wp2_with fail
                refine (CN.out).mono ?_
                rintro e w7 ⟨rfl, hb⟩
                have HB7 := Lib.hid hb
                clear hb y0 y1 y2
                go_wp2_with fail
                refine (CT.out _ HB7.out).mono ?_
                rintro e w8 ⟨x8, rfl, hr, hb⟩
                have HP8 := Lib.hid (rdp_own hr)
                have HB8 := Lib.hid (HB7.out.trans (hb.mono HB7.out.size))
                clear hr hb
                go_wp2_with fail
                refine (pasts_any _ _ _ HP8.out (by have := HSL.out; omega)).mono ?_
                rintro e w9 ⟨x9, rfl, hr, hb⟩
                have HQ := Lib.hid (rdp_own hr)
                have HB9 := Lib.hid (HB8.out.trans (hb.mono HB8.out.size))
                have HBX := Lib.hid (HB6.out.trans (HB9.out.mono HB6.out.size))
                clear hr hb HP8
                go_wp2_with fail
                refine (CU.out _ HBX.out).mono ?_
                rintro e w10 ⟨x10, rfl, hr, hb⟩
                have HP8 := Lib.hid (rdp_own hr)
                have HQ := Lib.hid ((HQ.out.below hb).more hb.size)
                have HBX := Lib.hid (HBX.out.trans (hb.mono HBX.out.size))
                clear hr hb
                go_wp2_with fail
                refine (pasts_any _ _ _ HP8.out (by have := HSL.out; omega)).mono ?_
                rintro e w11 ⟨x11, rfl, hr, hb⟩
                have HQ2 := Lib.hid (rdp_own hr)
                have HQ := Lib.hid ((HQ.out.below hb).more hb.size)
                have HBX := Lib.hid (HBX.out.trans (hb.mono HBX.out.size))
                clear hr hb
                go_wp2_with fail
                refine (rSame_any _ _ _ _ _ HQ.out HQ2.out (by have := HSL.out; omega)).mono ?_
                rintro e w12 ⟨⟨b, rfl, hx⟩, hb⟩
                obtain rfl : b = true := hx.2 rfl
                have HBX := Lib.hid (HBX.out.trans (hb.mono HBX.out.size))
                have HBZ := Lib.hid (HBW.out.trans (HBX.out.mono HBW.out.size))
                clear hx hb
                go_wp2_with fail
                go_ret
                exact ⟨rfl, HBZ.out⟩
        · go_simp
          refine hK.out _ _ (SB.out _ (HBU0.out.alloc HBU0.out.size _)) (fun hHeld => ?_)
          clear hK K
          try simp only [Act.put, List.setIfInBounds_toArray, List.set_cons_zero, List.set_cons_succ]
          obtain ⟨U1, hU1⟩ : ∃ U, U = U0.alloc (.cells #[.int .i64 sq, .string XE, .int .i64 ea] 26) := ⟨_, rfl⟩
          rw [← hU1]
          have HBU1 := Lib.hid (show Below w3.heap.size w3 U1 by rw [hU1]; exact HBU0.out.alloc HBU0.out.size _)
          have HX4 := Lib.hid (show U1.heap[U0.heap.size]? = some (.cells #[.int .i64 sq, .string XE, .int .i64 ea] 26 (0, 0)) by rw [hU1]; exact heap_alloc_new _ _)
          clear hU1
          refine wpAnyH_ready (rs := [0]) (by kernel_rfl) (by simp) ?_
          refine AllReadyH.cons (o := { dst := some 40, op := Op.buildSlice 22 0 #[], type := 22, pos := "law.go:97", after := #[], guard := none }) rfl (fun K hK => ?_) AllReadyH.nil
          go_simp
          refine hK.out _ _ (SB.out _ (HBU1.out.alloc HBU1.out.size _)) (fun hHeld => ?_)
          clear hK K
          try simp only [Act.put, List.setIfInBounds_toArray, List.set_cons_zero, List.set_cons_succ]
          obtain ⟨U2, hU2⟩ : ∃ U, U = U1.alloc (.cells #[] 26) := ⟨_, rfl⟩
          rw [← hU2]
          have HBU2 := Lib.hid (show Below w3.heap.size w3 U2 by rw [hU2]; exact HBU1.out.alloc HBU1.out.size _)
          have OE := Lib.hid (show U2.ownsRow w3.heap.size 26 3 (.slice (some ⟨U1.heap.size, 0, none⟩) 0 0) 0 [] by rw [hU2]; exact own_empty HBU1.out.size)
          have hlt := blk_lt HX4.out
          have HX4 := Lib.hid (show U2.heap[U0.heap.size]? = some (.cells #[.int .i64 sq, .string XE, .int .i64 ea] 26 (0, 0)) by rw [hU2]; exact (Below.heap_alloc U1 _ _ hlt).trans HX4.out)
          have HEF := Lib.hid (show some U0.heap.size ≠ some U1.heap.size from fun e => by injection e with e; omega)
          clear hlt
          clear hU2
          refine wpAnyH_ready (rs := [2]) (by kernel_rfl) (by simp) ?_
          refine AllReadyH.cons (o := { dst := some 42, op := Op.call { callee := Callee.builtin Builtin.append, args := #[Operand.tmp 40, Operand.tmp 41], argTypes := #[22, 22] }, type := 22, pos := "law.go:97", after := #[{ on := 0, ground := Ground.data }, { on := 1, ground := Ground.data }], guard := none }) rfl (fun K hK => ?_) AllReadyH.nil
          refine wp_app_any _ _ 22 rfl w3.heap.size 26 i0 _ 3 32 Try.underlying22 hi0 hz0 hz1 hz2 (by rfl) (by decide) (.slice (some ⟨U1.heap.size, 0, none⟩) 0 0) 0 [] rfl OE.out A n c (enC l).flatten rfl hl3 hA (SL.out _ HBU2.out) hone (by unfold maxLen; omega) (by omega) HBU2.out.size ?_
          intro v8 U3 hown8 hg8
          have HBU3 := Lib.hid (show Below w3.heap.size w3 U3 from HBU2.out.grown hg8 HBU2.out.size (fun k hk => (OE.out.lt k hk).1))
          refine hK.out _ _ (SB.out _ HBU3.out) (fun hHeld => ?_)
          clear hK K
          try simp only [Act.put, List.setIfInBounds_toArray, List.set_cons_zero, List.set_cons_succ]
          rw [Nat.zero_add, List.nil_append] at hown8
          have ON := Lib.hid hown8
          have HX4 := Lib.hid (show U3.heap[U0.heap.size]? = some (.cells #[.int .i64 sq, .string XE, .int .i64 ea] 26 (0, 0)) from (hg8.block _ (blk_lt HX4.out) HEF.out).trans HX4.out)
          clear hown8 hg8
          refine wpAnyH_ready (rs := [5]) (by kernel_rfl) (by simp) ?_
          refine AllReadyH.cons (o := { dst := some 45, op := Op.call { callee := Callee.builtin Builtin.append, args := #[Operand.tmp 42, Operand.tmp 44], argTypes := #[22, 22] }, type := 22, pos := "law.go:97", after := #[{ on := 2, ground := Ground.data }, { on := 4, ground := Ground.data }, { on := 2, ground := Ground.chain }], guard := none }) rfl (fun K hK => ?_) AllReadyH.nil
          refine wp_append_lies _ _ _ _ rfl w3.heap.size 26 i0 _ 3 32 Try.underlying22 hi0 hz0 hz1 hz2 rfl (by decide) v8 n (enC l).flatten rfl ON.out ⟨U0.heap.size, 0, none⟩ 1 1 [.int .i64 sq, .string XE, .int .i64 ea] rfl rfl (World.news_of_block (cs := #[.int .i64 sq, .string XE, .int .i64 ea]) (t := 26) (fr := (0, 0)) HX4.out) (by intro u hu; simp at hu; rcases hu with rfl | rfl | rfl <;> rfl) (by omega) (by unfold maxLen; omega) (by omega) HBU3.out.size _ rfl ?_
          intro gb cap w4 hown9 hg9 hat9 hgl9
          have HB4 := Lib.hid (show Below w3.heap.size w3 w4 from HBU3.out.grown hg9 HBU3.out.size (fun k hk => (ON.out.lt k hk).1))
          have HO4 := Lib.hid (show w4.ownsRow w3.heap.size 26 3 (.slice (some ⟨gb, 0, none⟩) (n + 1) cap) (n + 1) (enC (l ++ [(sq, eid, ea)])).flatten by
            rw [enC_app]
            have e : (enC [(sq, eid, ea)]).flatten = [.int .i64 sq, .string XE, .int .i64 ea] := by rw [← HXS.out]; rfl
            rw [e]
            exact hown9)
          refine hK.out _ _ (SB.out _ HB4.out) (fun hHeld => ?_)
          clear hK K
          try simp only [Act.put, List.setIfInBounds_toArray, List.set_cons_zero, List.set_cons_succ]
          clear hown9 hg9 hat9 hgl9
          refine wpAnyH_ready (rs := [6]) (by kernel_rfl) (by simp) ?_
          refine AllReadyH.cons (o := { dst := some 9, op := Op.assign (Operand.tmp 45), type := 22, pos := "law.go:97", after := #[{ on := 5, ground := Ground.data }, { on := 5, ground := Ground.chain }, { on := 0, ground := Ground.phase }, { on := 1, ground := Ground.phase }, { on := 2, ground := Ground.phase }, { on := 3, ground := Ground.phase }, { on := 4, ground := Ground.phase }, { on := 5, ground := Ground.phase }], guard := none }) rfl (fun K hK => ?_) AllReadyH.nil
          go_simp
          refine hK.out _ _ (SB.out _ HB4.out) (fun hHeld => ?_)
          clear hK K
          try simp only [Act.put, List.setIfInBounds_toArray, List.set_cons_zero, List.set_cons_succ]
          refine wpAnyH_done (by kernel_rfl) ?_ _
          clear hHeld
          have HBW := Lib.hid (HB3.out.trans (HB4.out.mono HB3.out.size))
          have HR4 := Lib.hid ((HB4.out.block w.heap.size HS3.out).trans HR3.out)
          have HS4 := Lib.hid (Nat.lt_of_lt_of_le HS3.out HB4.out.size)
          have HAN := Lib.hid (show (l ++ [(sq, eid, ea)]).length = n + 1 by rw [List.length_append, HN.out]; rfl)
          have HAL := Lib.hid (show RdE w4 w4.heap.size (.slice (some ⟨gb, 0, none⟩) (n + 1) cap) (l ++ [(sq, eid, ea)]) from rde_own (by rw [HAN.out]; exact HO4.out))
          have HIA := Lib.hid (show ∀ x ∈ l ++ [(sq, eid, ea)], x.2.1.length ≤ 9223372036854775807 from fun x hx => by rcases List.mem_append.1 hx with h | h; exact HI.out x h; rw [List.mem_singleton.1 h]; exact HEI.out)
          have CR := Lib.hid (fun (W : World) (hb : Below w4.heap.size w4 W) => pRight_any _ (l ++ [(sq, eid, ea)]) f sq W ((HAL.out.below hb).more hb.size) (by rw [HAN.out]; omega) HIA.out hfb (by have := HSQ.out; omega))
          clear HX4 ON OE
          try clear HEF
          obtain ⟨y0, y1, y2⟩ := row3 HR4.out
          cases hr2 : rightS (l ++ [(sq, eid, ea)]) f sq with
          | false =>
            rw [hr2] at CR
            clear hr2
            go_wp2_with fail
            refine (CR.out _ (Below.refl _ _)).mono ?_
            rintro e w5 ⟨rfl, hb⟩
            have HB5 := Lib.hid (HBW.out.trans (hb.mono HBW.out.size))
            clear hb
            go_wp2_with fail
            go_ret
            exact ⟨rfl, HB5.out⟩
          | true =>
            have HRT := Lib.hid (show rightS (l ++ [(sq, eid, ea)]) f (f + (l.length : Int) + 1) = true by rw [HN.out, ← HSQ.out]; exact hr2)
            rw [hr2] at CR
            clear hr2
            have hff : f ≤ flrS l f keep (sq, eid, ea) := goes_floor HRT.out
            have hfu : flrS l f keep (sq, eid, ea) ≤ 9007199254740991 := by
              have h := (right_is.1 (goes_right (keep := keep) HRT.out)).1
              omega
            have CM := Lib.hid (goes_right (keep := keep) HRT.out)
            have CS := Lib.hid (goes_same (keep := keep) HRT.out)
            have hml : (outS l keep (sq, eid, ea)).length ≤ n + 1 := by have := out_len l keep (sq, eid, ea); rw [HN.out] at this; exact this
            have hmk : (outS l keep (sq, eid, ea)).length ≤ keep.toNat := goes_len
            have CA := Lib.hid (fun (W : World) (hb : Below w4.heap.size w4 W) => pAdd_any _ l f keep (sq, eid, ea) W (by have hw := HBW.out.trans (hb.mono HBW.out.size); have h := HL.out; rw [← HN.out] at h; exact (h.below hw).more hw.size) (by rw [HN.out]; omega) hkb (fun _ _ _ h => by injection h with h1 h2 h3; have := HCP.out; omega))
            rw [HN.out, ← HSQ.out] at CM
            unfold GivesAd at CA
            have HIM := Lib.hid (show ∀ x ∈ outS l keep (sq, eid, ea), x.2.1.length ≤ 9223372036854775807 from fun x hx => HIA.out x (List.mem_of_mem_drop hx))
            obtain ⟨M, hM⟩ : ∃ M, outS l keep (sq, eid, ea) = M := ⟨_, rfl⟩
            obtain ⟨fl, hfl⟩ : ∃ fl, flrS l f keep (sq, eid, ea) = fl := ⟨_, rfl⟩
            simp only [hM, hfl, HN.out] at CA
            rw [hM, hfl] at CM CS
            rw [hfl] at hff hfu
            rw [hM] at hml hmk HIM
            unfold enR at CA
            simp only [HXS.out] at CA
            clear hM hfl
            go_wp2_with fail
            refine (CR.out _ (Below.refl _ _)).mono ?_
            rintro e w5 ⟨rfl, hb⟩
            have HB5 := Lib.hid hb
            have HR5 := Lib.hid ((hb.block w.heap.size HS4.out).trans HR4.out)
            clear hb y0 y1 y2
            obtain ⟨y0, y1, y2⟩ := row3 HR5.out
            go_wp2_with fail
            refine (CA.out _ HB5.out).mono ?_
            rintro e w6 ⟨xm, rfl, hr, hb⟩
            have HRM := Lib.hid (rde_own hr)
            obtain ⟨Am, cm, rfl⟩ := own_slice hr
            have HB6 := Lib.hid (HB5.out.trans (hb.mono HB5.out.size))
            have HR6 := Lib.hid ((HB6.out.block w.heap.size HS4.out).trans HR4.out)
            clear hb hr y0 y1 y2
            obtain ⟨y0, y1, y2⟩ := row3 HR6.out
            have CN := Lib.hid (pRight_any _ M fl sq w6 HRM.out (by omega) HIM.out (by omega) (by have := HSQ.out; omega))
            rw [CM.out] at CN
            have CT := Lib.hid (fun (W : World) (hb : Below w6.heap.size w6 W) => pSince_any _ M fl W ((HRM.out.below hb).more hb.size) (by omega) HIM.out)
            have CU := Lib.hid (fun (W : World) (hb : Below w4.heap.size w4 W) => pSince_any _ (l ++ [(sq, eid, ea)]) fl W ((HAL.out.below hb).more hb.size) (by rw [HAN.out]; omega) HIA.out)
            have HSL := Lib.hid (show (sinS M fl).length ≤ 1000 from Nat.le_trans (sin_len M fl) (by omega))
            unfold GivesSn at CT CU
            simp only [← CS.out] at CU
            obtain ⟨P, hP⟩ : ∃ P, sinS M fl = P := ⟨_, rfl⟩
            simp only [hP] at CT CU HSL
            clear hP
            obtain ⟨nm, hnm⟩ : ∃ x, M.length = x := ⟨_, rfl⟩
            rw [hnm] at CN CT hml hmk HRM ⊢
            have HNM := Lib.hid hnm
            clear hnm
            have v0 : decide ((fl : Int) ≥ f) = true := decide_eq_true (by omega)
            have v1 : decide ((f : Int) ≤ fl) = true := decide_eq_true hff
            rcases Int.lt_or_le keep 0 with hk0 | hk0
            · have v3 : max keep 0 = 0 := by omega
              have v4 : decide ((0 : Int) ≤ keep) = false := decide_eq_false (by omega)
              have v5 : ¬ (0 : Int) ≤ keep := by omega
              obtain rfl : nm = 0 := by omega
              go_wp2_with fail
              refine (CN.out).mono ?_
              rintro e w7 ⟨rfl, hb⟩
              have HB7 := Lib.hid hb
              clear hb y0 y1 y2
              go_wp2_with fail
              refine (CT.out _ HB7.out).mono ?_
              rintro e w8 ⟨x8, rfl, hr, hb⟩
              have HP8 := Lib.hid (rdp_own hr)
              have HB8 := Lib.hid (HB7.out.trans (hb.mono HB7.out.size))
              clear hr hb
              go_wp2_with fail
              refine (pasts_any _ _ _ HP8.out (by have := HSL.out; omega)).mono ?_
              rintro e w9 ⟨x9, rfl, hr, hb⟩
              have HQ := Lib.hid (rdp_own hr)
              have HB9 := Lib.hid (HB8.out.trans (hb.mono HB8.out.size))
              have HBX := Lib.hid (HB6.out.trans (HB9.out.mono HB6.out.size))
              clear hr hb HP8
              go_wp2_with fail
              refine (CU.out _ HBX.out).mono ?_
              rintro e w10 ⟨x10, rfl, hr, hb⟩
              have HP8 := Lib.hid (rdp_own hr)
              have HQ := Lib.hid ((HQ.out.below hb).more hb.size)
              have HBX := Lib.hid (HBX.out.trans (hb.mono HBX.out.size))
              clear hr hb
              go_wp2_with fail
              refine (pasts_any _ _ _ HP8.out (by have := HSL.out; omega)).mono ?_
              rintro e w11 ⟨x11, rfl, hr, hb⟩
              have HQ2 := Lib.hid (rdp_own hr)
              have HQ := Lib.hid ((HQ.out.below hb).more hb.size)
              have HBX := Lib.hid (HBX.out.trans (hb.mono HBX.out.size))
              clear hr hb
              go_wp2_with fail
              refine (rSame_any _ _ _ _ _ HQ.out HQ2.out (by have := HSL.out; omega)).mono ?_
              rintro e w12 ⟨⟨b, rfl, hx⟩, hb⟩
              obtain rfl : b = true := hx.2 rfl
              have HBX := Lib.hid (HBX.out.trans (hb.mono HBX.out.size))
              have HBZ := Lib.hid (HBW.out.trans (HBX.out.mono HBW.out.size))
              clear hx hb
              go_wp2_with fail
              go_ret
              exact ⟨rfl, HBZ.out⟩
            · have v3 : max keep 0 = keep := by omega
              have v4 : decide (keep < 0) = false := decide_eq_false (by omega)
              have v5 : ¬ keep < 0 := by omega
              have v6 : (nm : Int) ≤ keep := by omega
              have v7 : decide ((nm : Int) ≤ keep) = true := decide_eq_true v6
              go_wp2_with fail
              refine (CN.out).mono ?_
              rintro e w7 ⟨rfl, hb⟩
              have HB7 := Lib.hid hb
              clear hb y0 y1 y2
              go_wp2_with fail
              refine (CT.out _ HB7.out).mono ?_
              rintro e w8 ⟨x8, rfl, hr, hb⟩
              have HP8 := Lib.hid (rdp_own hr)
              have HB8 := Lib.hid (HB7.out.trans (hb.mono HB7.out.size))
              clear hr hb
              go_wp2_with fail
              refine (pasts_any _ _ _ HP8.out (by have := HSL.out; omega)).mono ?_
              rintro e w9 ⟨x9, rfl, hr, hb⟩
              have HQ := Lib.hid (rdp_own hr)
              have HB9 := Lib.hid (HB8.out.trans (hb.mono HB8.out.size))
              have HBX := Lib.hid (HB6.out.trans (HB9.out.mono HB6.out.size))
              clear hr hb HP8
              go_wp2_with fail
              refine (CU.out _ HBX.out).mono ?_
              rintro e w10 ⟨x10, rfl, hr, hb⟩
              have HP8 := Lib.hid (rdp_own hr)
              have HQ := Lib.hid ((HQ.out.below hb).more hb.size)
              have HBX := Lib.hid (HBX.out.trans (hb.mono HBX.out.size))
              clear hr hb
              go_wp2_with fail
              refine (pasts_any _ _ _ HP8.out (by have := HSL.out; omega)).mono ?_
              rintro e w11 ⟨x11, rfl, hr, hb⟩
              have HQ2 := Lib.hid (rdp_own hr)
              have HQ := Lib.hid ((HQ.out.below hb).more hb.size)
              have HBX := Lib.hid (HBX.out.trans (hb.mono HBX.out.size))
              clear hr hb
              go_wp2_with fail
              refine (rSame_any _ _ _ _ _ HQ.out HQ2.out (by have := HSL.out; omega)).mono ?_
              rintro e w12 ⟨⟨b, rfl, hx⟩, hb⟩
              obtain rfl : b = true := hx.2 rfl
              have HBX := Lib.hid (HBX.out.trans (hb.mono HBX.out.size))
              have HBZ := Lib.hid (HBW.out.trans (HBX.out.mono HBW.out.size))
              clear hx hb
              go_wp2_with fail
              go_ret
              exact ⟨rfl, HBZ.out⟩
    · have u0 : decide ((f : Int) > 1125899906842624) = true := decide_eq_true (by omega)
      have u1 : decide ((1125899906842624 : Int) < f) = true := decide_eq_true (by omega)
      go_enter Try.func7, Try.ntmps7
      go_wp2_with fail
      rw [← HW0.out]
      go_wp2_with fail
      refine (awake_any17 _).mono ?_
      rintro e w1 ⟨rfl, hb⟩
      have HB1 := Lib.hid (HB0.out.trans (hb.mono HB0.out.size))
      clear hb
      go_wp2_with fail
      refine (awake_any17 _).mono ?_
      rintro e w2 ⟨rfl, hb⟩
      have HB2 := Lib.hid (HB1.out.trans (hb.mono HB1.out.size))
      clear hb
      go_wp2_with fail
      go_ret
      exact ⟨rfl, HB2.out⟩
  · have t0 : decide ((n : Int) > 300) = true := decide_eq_true (by omega)
    have t1 : decide ((300 : Int) < (n : Int)) = true := decide_eq_true (by omega)
    have t2 : decide (300 < n) = true := decide_eq_true (by omega)
    go_enter Try.func7, Try.ntmps7
    go_wp2_with fail
    rw [← HW0.out]
    go_wp2_with fail
    refine (awake_any17 _).mono ?_
    rintro e w1 ⟨rfl, hb⟩
    have HB1 := Lib.hid (HB0.out.trans (hb.mono HB0.out.size))
    clear hb
    go_wp2_with fail
    go_ret
    exact ⟨rfl, HB1.out⟩
end Go.Proofs.Ytfdibmcjjclgkaa.Tl
