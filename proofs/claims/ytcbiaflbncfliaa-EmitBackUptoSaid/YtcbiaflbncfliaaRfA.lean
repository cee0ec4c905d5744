import Derived.Test.YtcbiaflbncfliaaReC
import Derived.Recover
import Derived.WalkLawsBesides
import Derived.Maps.OwnSet
/- Contracts of package read: the small functions. -/
namespace Go.Proofs.Ytcbiaflbncfliaa.Re
open Go.RowKit
open Go.Proofs.Ytcbiaflbncfliaa.Utf
open Go.Proofs.Ytcbiaflbncfliaa.Sc

/-- the reader, in its block: the tokens, the next token's number, how many values -/
def Rdr (w : World) (rb : Nat) (vL : Value) (i p : Nat) : Prop :=
  w.heap[rb]? = some (.cells #[vL, .int .i64 i, .int .i64 p] 49 (0, 0))
theorem Rdr.cells {w : World} {rb : Nat} {vL : Value} {i p : Nat} (h : Rdr w rb vL i p) :
    rb < w.heap.size ∧ w.cell? ⟨rb, 0, none⟩ = some vL ∧ w.cell? ⟨rb, 1, none⟩ = some (.int .i64 i) ∧ w.cell? ⟨rb, 2, none⟩ = some (.int .i64 p) ∧ (∀ j, w.frozen? ⟨rb, j, none⟩ = false) :=
  ⟨(Array.getElem?_eq_some_iff.1 h).1, (cell_of_row _ _ 0 _ _ _ h).trans rfl, (cell_of_row _ _ 1 _ _ _ h).trans rfl, (cell_of_row _ _ 2 _ _ _ h).trans rfl, fun j => frozen_of_row _ _ j _ _ h⟩
theorem Rdr.below {w w' : World} {rb : Nat} {vL : Value} {i p : Nat} (h : Rdr w rb vL i p) (hb : Below w.heap.size w w') : Rdr w' rb vL i p := (hb.block rb (Array.getElem?_eq_some_iff.1 h).1).trans h
theorem Rdr.far {w : World} {rb : Nat} {vL : Value} {i p : Nat} (h : Rdr w rb vL i p) (q : Addr) (hq : q.block ≠ rb) (u : Value) : Rdr (w.setCell q u) rb vL i p :=
  (heap_setCell_other w q rb u (fun e => hq e.symm)).trans h
theorem Rdr.seti {w : World} {rb : Nat} {vL : Value} {i p : Nat} (h : Rdr w rb vL i p) (j : Nat) : Rdr (w.setCell ⟨rb, 1, none⟩ (.int .i64 j)) rb vL j p :=
  heap_setCell_same w rb 1 _ _ (.int .i64 j) h
theorem Rdr.setp {w : World} {rb : Nat} {vL : Value} {i p : Nat} (h : Rdr w rb vL i p) (j : Nat) : Rdr (w.setCell ⟨rb, 2, none⟩ (.int .i64 j)) rb vL i j :=
  heap_setCell_same w rb 2 _ _ (.int .i64 j) h
theorem Rdr.alloc {w : World} {rb : Nat} {vL : Value} {i p : Nat} (h : Rdr w rb vL i p) (o : Obj) : Rdr (w.alloc o) rb vL i p := h.below ((Below.refl _ _).alloc (Nat.le_refl _) _)
/-- the tokens and the end behind them -/
def withE (ts : List Tok) (E : Int) : List Tok := ts ++ [(0, 0, [], E)]
theorem withE_len (ts : List Tok) (E : Int) : (withE ts E).length = ts.length + 1 := by simp [withE]
theorem withE_at {ts : List Tok} {E : Int} {i : Nat} (h : i ≤ ts.length) (h2 : i < (withE ts E).length) : (withE ts E)[i] = tk ts E i := by
  have key : (withE ts E)[i]? = some (tk ts E i) := by
    unfold withE
    rcases Nat.lt_or_ge i ts.length with g | g
    · rw [tk_in g, List.getElem?_append_left g, List.getElem?_eq_getElem g]
    · obtain rfl : i = ts.length := by omega
      rw [tk_out g, List.getElem?_append_right (Nat.le_refl _)]
      simp
  rw [List.getElem?_eq_getElem h2] at key
  exact Option.some.inj key
theorem RdT_atE {w : World} {B : Nat} {vL : Value} {ts : List Tok} {E : Int} (h : RdT w B vL (withE ts E)) {i : Nat} (hi : i ≤ ts.length) : ∃ g c, vL = .slice (some ⟨g, 0, none⟩) (ts.length + 1) c ∧ g < B ∧
    w.cell? ⟨g, i * 4, none⟩ = some (.int .i64 (tk ts E i).1) ∧ w.cell? ⟨g, i * 4 + 1, none⟩ = some (.int .i64 (tk ts E i).2.1) ∧ w.cell? ⟨g, i * 4 + 2, none⟩ = some (.string (strOf (tk ts E i).2.2.1)) ∧ w.cell? ⟨g, i * 4 + 3, none⟩ = some (.int .i64 (tk ts E i).2.2.2) := by
  have hlt : i < (withE ts E).length := by rw [withE_len]; omega
  have := h.at_ i hlt
  rw [withE_at hi hlt, withE_len] at this
  exact this

/-- what a reader gives up with -/
def faultV (a y : Int) : Value := .iface 45 (.agg #[.int .i64 a, .int .i64 y])
def Gone (a y : Int) : Ending := .panicked [{ v := faultV a y, recovered := false }]

theorem bodyPost_gone {P : Program} {fn : Func} {R : Ending → World → Prop} {c : List PanicEntry} {a : Act} {w : World} (h1 : a.defers = []) (h2 : R (.panicked c) w) : bodyPost P fn R (.panic c) a w := ⟨h1, h2⟩
theorem Fr.drew {w w' : World} {pb : Nat} (h : w.grownBy w' (some pb)) : w.grownBy w'.drew (some pb) := ⟨h.os, h.tape, h.output, h.size, h.block⟩

set_option maxRecDepth 100000 in
set_option maxHeartbeats 2000000 in
theorem rfail_any (rb : Nat) (vL : Value) (ts : List Tok) (E : Int) (i p : Nat) (y : Int) (w : World) (hp : Rdr w rb vL i p) (hr : RdT w rb vL (withE ts E)) (hi : i ≤ ts.length) :
    Calls Try.prog 21 #[.pointer (some ⟨rb, 0, none⟩), .int .i64 y] w fun e w' => e = Gone (tk ts E i).2.2.2 y ∧ Below w.heap.size w w' := by
  obtain ⟨hlt, c0, c1, _, _⟩ := hp.cells
  obtain ⟨g, c, rfl, hg, a0, a1, a2, a3⟩ := RdT_atE hr hi
  have k0 : (0 : Int) ≤ (i : Int) := by omega
  have k1 : (i : Int) < (ts.length : Int) + 1 := by omega
  generalize (tk ts E i).2.2.2 = x4 at *
  have HP := Lib.hid hp; clear hp
  have HR := Lib.hid hr; clear hr
  unfold Gone faultV
  go_enter Try.func21, Try.ntmps21
  go_wp2_with fail
  -- FAIL BEGIN
  refine wp_region_held_drew (S := fun w' => w'.cell? ⟨rb, 0, none⟩ = some (.slice (some ⟨g, 0, none⟩) (ts.length + 1) c) ∧ w'.cell? ⟨rb, 1, none⟩ = some (.int .i64 i) ∧ w'.cell? ⟨g, i * 4 + 3, none⟩ = some (.int .i64 x4)) (by kernel_rfl) (by go_keep) (fun hHeld => ?_)
  refine wpAnyH_take (i := 0) (oi := { dst := some 4, op := Op.move (Operand.tmp 0), type := 60, pos := "read.go:47", after := #[], guard := none }) (v := ?_) rfl (by kernel_rfl) (by kernel_rfl) (by kernel_rfl) (fun _ _ _ h => h) (Or.inl ⟨by rfl, ?_⟩) hHeld ?_
  rotate_left
  · intro w hSw; (try dsimp only at hSw); go_simp; with_reducible rfl
  try simp only [Act.put, List.setIfInBounds_toArray, List.set_cons_zero, List.set_cons_succ]
  refine wpAnyH_take (i := 1) (oi := { dst := some 5, op := Op.nilCheck (Operand.tmp 4), type := 0, pos := "read.go:47", after := #[{ on := 0, ground := Ground.data }], guard := none }) (v := ?_) rfl (by kernel_rfl) (by kernel_rfl) (by kernel_rfl) (fun _ _ _ h => h) (Or.inl ⟨by rfl, ?_⟩) hHeld ?_
  rotate_left
  · intro w hSw; (try dsimp only at hSw); go_simp; with_reducible rfl
  try simp only [Act.put, List.setIfInBounds_toArray, List.set_cons_zero, List.set_cons_succ]
  refine wpAnyH_take (i := 2) (oi := { dst := some 6, op := Op.fieldAddr 49 (Operand.tmp 5) 0, type := 0, pos := "read.go:47", after := #[{ on := 1, ground := Ground.data }], guard := none }) (v := ?_) rfl (by kernel_rfl) (by kernel_rfl) (by kernel_rfl) (fun _ _ _ h => h) (Or.inl ⟨by rfl, ?_⟩) hHeld ?_
  rotate_left
  · intro w hSw; (try dsimp only at hSw); go_simp; with_reducible rfl
  try simp only [Act.put, List.setIfInBounds_toArray, List.set_cons_zero, List.set_cons_succ]
  refine wpAnyH_take (i := 3) (oi := { dst := some 7, op := Op.load 41 (Operand.tmp 6), type := 41, pos := "read.go:47", after := #[{ on := 2, ground := Ground.data }], guard := none }) (v := ?_) rfl (by kernel_rfl) (by kernel_rfl) (by kernel_rfl) (fun _ _ _ h => h) (Or.inl ⟨by rfl, ?_⟩) hHeld ?_
  rotate_left
  · intro w hSw; (try dsimp only at hSw); go_simp; with_reducible rfl
  try simp only [Act.put, List.setIfInBounds_toArray, List.set_cons_zero, List.set_cons_succ]
  refine wpAnyH_take (i := 4) (oi := { dst := some 8, op := Op.move (Operand.tmp 0), type := 60, pos := "read.go:47", after := #[], guard := none }) (v := ?_) rfl (by kernel_rfl) (by kernel_rfl) (by kernel_rfl) (fun _ _ _ h => h) (Or.inl ⟨by rfl, ?_⟩) hHeld ?_
  rotate_left
  · intro w hSw; (try dsimp only at hSw); go_simp; with_reducible rfl
  try simp only [Act.put, List.setIfInBounds_toArray, List.set_cons_zero, List.set_cons_succ]
  refine wpAnyH_take (i := 5) (oi := { dst := some 9, op := Op.nilCheck (Operand.tmp 8), type := 0, pos := "read.go:47", after := #[{ on := 4, ground := Ground.data }], guard := none }) (v := ?_) rfl (by kernel_rfl) (by kernel_rfl) (by kernel_rfl) (fun _ _ _ h => h) (Or.inl ⟨by rfl, ?_⟩) hHeld ?_
  rotate_left
  · intro w hSw; (try dsimp only at hSw); go_simp; with_reducible rfl
  try simp only [Act.put, List.setIfInBounds_toArray, List.set_cons_zero, List.set_cons_succ]
  refine wpAnyH_take (i := 6) (oi := { dst := some 10, op := Op.fieldAddr 49 (Operand.tmp 9) 1, type := 0, pos := "read.go:47", after := #[{ on := 5, ground := Ground.data }], guard := none }) (v := ?_) rfl (by kernel_rfl) (by kernel_rfl) (by kernel_rfl) (fun _ _ _ h => h) (Or.inl ⟨by rfl, ?_⟩) hHeld ?_
  rotate_left
  · intro w hSw; (try dsimp only at hSw); go_simp; with_reducible rfl
  try simp only [Act.put, List.setIfInBounds_toArray, List.set_cons_zero, List.set_cons_succ]
  refine wpAnyH_take (i := 7) (oi := { dst := some 11, op := Op.load 3 (Operand.tmp 10), type := 3, pos := "read.go:47", after := #[{ on := 6, ground := Ground.data }], guard := none }) (v := ?_) rfl (by kernel_rfl) (by kernel_rfl) (by kernel_rfl) (fun _ _ _ h => h) (Or.inl ⟨by rfl, ?_⟩) hHeld ?_
  rotate_left
  · intro w hSw; (try dsimp only at hSw); go_simp; with_reducible rfl
  try simp only [Act.put, List.setIfInBounds_toArray, List.set_cons_zero, List.set_cons_succ]
  refine wpAnyH_take (i := 8) (oi := { dst := some 12, op := Op.indexAddr 41 (Operand.tmp 7) (Operand.tmp 11), type := 0, pos := "read.go:47", after := #[{ on := 3, ground := Ground.data }, { on := 7, ground := Ground.data }], guard := none }) (v := ?_) rfl (by kernel_rfl) (by kernel_rfl) (by kernel_rfl) (fun _ _ _ h => h) (Or.inl ⟨by rfl, ?_⟩) hHeld ?_
  rotate_left
  · intro w hSw; (try dsimp only at hSw); go_simp; with_reducible rfl
  try simp only [Act.put, List.setIfInBounds_toArray, List.set_cons_zero, List.set_cons_succ]
  refine wpAnyH_take (i := 9) (oi := { dst := some 13, op := Op.fieldAddr 47 (Operand.tmp 12) 3, type := 0, pos := "read.go:47", after := #[{ on := 8, ground := Ground.data }], guard := none }) (v := ?_) rfl (by kernel_rfl) (by kernel_rfl) (by kernel_rfl) (fun _ _ _ h => h) (Or.inl ⟨by rfl, ?_⟩) hHeld ?_
  rotate_left
  · intro w hSw; (try dsimp only at hSw); go_simp; with_reducible rfl
  try simp only [Act.put, List.setIfInBounds_toArray, List.set_cons_zero, List.set_cons_succ]
  refine wpAnyH_take (i := 10) (oi := { dst := some 14, op := Op.load 3 (Operand.tmp 13), type := 3, pos := "read.go:47", after := #[{ on := 9, ground := Ground.data }], guard := none }) (v := ?_) rfl (by kernel_rfl) (by kernel_rfl) (by kernel_rfl) (fun _ _ _ h => h) (Or.inl ⟨by rfl, ?_⟩) hHeld ?_
  rotate_left
  · intro w hSw; (try dsimp only at hSw); go_simp; with_reducible rfl
  try simp only [Act.put, List.setIfInBounds_toArray, List.set_cons_zero, List.set_cons_succ]
  refine wpAnyH_take (i := 11) (oi := { dst := some 15, op := Op.move (Operand.tmp 1), type := 26, pos := "read.go:47", after := #[], guard := none }) (v := ?_) rfl (by kernel_rfl) (by kernel_rfl) (by kernel_rfl) (fun _ _ _ h => h) (Or.inl ⟨by rfl, ?_⟩) hHeld ?_
  rotate_left
  · intro w hSw; (try dsimp only at hSw); go_simp; with_reducible rfl
  try simp only [Act.put, List.setIfInBounds_toArray, List.set_cons_zero, List.set_cons_succ]
  refine wpAnyH_take (i := 12) (oi := { dst := some 16, op := Op.build 45 #[(0, Operand.tmp 14), (1, Operand.tmp 15)], type := 45, pos := "read.go:47", after := #[{ on := 10, ground := Ground.data }, { on := 11, ground := Ground.data }], guard := none }) (v := ?_) rfl (by kernel_rfl) (by kernel_rfl) (by kernel_rfl) (fun _ _ _ h => h) (Or.inl ⟨by rfl, ?_⟩) hHeld ?_
  rotate_left
  · intro w hSw; (try dsimp only at hSw); go_simp; with_reducible rfl
  try simp only [Act.put, List.setIfInBounds_toArray, List.set_cons_zero, List.set_cons_succ]
  refine wpAnyH_take (i := 13) (oi := { dst := some 17, op := Op.makeInterface 45 (Operand.tmp 16), type := 20, pos := "read.go:47", after := #[{ on := 12, ground := Ground.data }], guard := none }) (v := ?_) rfl (by kernel_rfl) (by kernel_rfl) (by kernel_rfl) (fun _ _ _ h => h) (Or.inl ⟨by rfl, ?_⟩) hHeld ?_
  rotate_left
  · intro w hSw; (try dsimp only at hSw); go_simp; with_reducible rfl
  try simp only [Act.put, List.setIfInBounds_toArray, List.set_cons_zero, List.set_cons_succ]
  refine wpAnyH_ready (rs := [14]) (by kernel_rfl) (by simp) ?_
  refine AllReadyH.cons (o := { dst := none, op := Op.panic (Operand.tmp 17), type := 0, pos := "read.go:47", after := #[{ on := 13, ground := Ground.data }], guard := none }) rfl (fun K hK => ?_) AllReadyH.nil
  go_simp
  exact bodyPost_gone rfl ⟨rfl, (Below.refl _ _).drew⟩
  -- FAIL END

/-- of which kind a value is that begins with a token -/
def kindN (t : Tok) : Int := if t.1 = 2 then (if t.2.2.1 = wNull then 1 else 2) else if t.1 = 3 then 3 else if t.1 = 4 then 4 else if t.1 = 1 then (if t.2.2.1 = [91] then 5 else if t.2.2.1 = [123] then 6 else 0) else 0

set_option maxRecDepth 100000 in
set_option maxHeartbeats 2000000 in
theorem kindOf_any (t : Tok) (w : World) : Calls Try.prog 33 #[tokV t] w fun e w' => e = .returned (.int .i64 (kindN t)) ∧ Below w.heap.size w w' := by
  obtain ⟨x1, x2, x3, x4⟩ := t
  unfold tokV kindN
  simp only
  have hX := strOf_list x3
  generalize strOf x3 = X at *
  subst hX
  have ha : ∀ o : Obj, Below w.heap.size w (w.alloc o) := fun o => (Below.refl _ _).alloc (Nat.le_refl _) _
  have HA := Lib.hid ha; clear ha
  by_cases h2 : x1 = 2
  · subst h2
    rw [if_pos rfl]
    by_cases hn : X.toList = wNull
    · rw [if_pos hn]
      have t1 : (X.toList == [110, 117, 108, 108]) = true := by rw [beq_iff_eq]; exact hn
      clear hn
      go_enter Try.func33, Try.ntmps33
      go_wp2_with fail
      go_ret
      exact ⟨rfl, HA.out _⟩
    · rw [if_neg hn]
      have t1 : (X.toList == [110, 117, 108, 108]) = false := by rw [beq_eq_false_iff_ne]; exact hn
      clear hn
      go_enter Try.func33, Try.ntmps33
      go_wp2_with fail
      go_ret
      exact ⟨rfl, HA.out _⟩
  · rw [if_neg h2]
    have t2 : (x1 == 2) = false := by rw [beq_eq_false_iff_ne]; exact h2
    clear h2
    by_cases h3 : x1 = 3
    · subst h3
      rw [if_pos rfl]
      clear t2
      go_enter Try.func33, Try.ntmps33
      go_wp2_with fail
      go_ret
      exact ⟨rfl, HA.out _⟩
    · rw [if_neg h3]
      have t3 : (x1 == 3) = false := by rw [beq_eq_false_iff_ne]; exact h3
      clear h3
      by_cases h4 : x1 = 4
      · subst h4
        rw [if_pos rfl]
        clear t2 t3
        go_enter Try.func33, Try.ntmps33
        go_wp2_with fail
        go_ret
        exact ⟨rfl, HA.out _⟩
      · rw [if_neg h4]
        have t4 : (x1 == 4) = false := by rw [beq_eq_false_iff_ne]; exact h4
        clear h4
        by_cases h1 : x1 = 1
        · subst h1
          rw [if_pos rfl]
          clear t2 t3 t4
          by_cases hn : X.toList = [91]
          · rw [if_pos hn]
            have t1 : (X.toList == [91]) = true := by rw [beq_iff_eq]; exact hn
            clear hn
            go_enter Try.func33, Try.ntmps33
            go_wp2_with fail
            go_ret
            exact ⟨rfl, HA.out _⟩
          · rw [if_neg hn]
            have t1 : (X.toList == [91]) = false := by rw [beq_eq_false_iff_ne]; exact hn
            clear hn
            by_cases hm : X.toList = [123]
            · rw [if_pos hm]
              have t5 : (X.toList == [123]) = true := by rw [beq_iff_eq]; exact hm
              clear hm
              go_enter Try.func33, Try.ntmps33
              go_wp2_with fail
              go_ret
              exact ⟨rfl, HA.out _⟩
            · rw [if_neg hm]
              have t5 : (X.toList == [123]) = false := by rw [beq_eq_false_iff_ne]; exact hm
              clear hm
              go_enter Try.func33, Try.ntmps33
              go_wp2_with fail
              go_ret
              exact ⟨rfl, HA.out _⟩
        · rw [if_neg h1]
          have t1 : (x1 == 1) = false := by rw [beq_eq_false_iff_ne]; exact h1
          clear h1
          go_enter Try.func33, Try.ntmps33
          go_wp2_with fail
          go_ret
          exact ⟨rfl, HA.out _⟩

set_option maxRecDepth 100000 in
set_option maxHeartbeats 2000000 in
theorem take_any (rb : Nat) (vL : Value) (ts : List Tok) (E : Int) (i p : Nat) (w : World) (hp : Rdr w rb vL i p) (hr : RdT w rb vL (withE ts E)) (hi : i ≤ ts.length) (hi2 : ts.length ≤ 4611686018427387904) :
    Calls Try.prog 51 #[.pointer (some ⟨rb, 0, none⟩)] w fun e w' => e = .returned (tokV (tk ts E i)) ∧ w.grownBy w' (some rb) ∧ Rdr w' rb vL (i + 1) p := by
  obtain ⟨hlt, c0, c1, c2, fz⟩ := hp.cells
  obtain ⟨g, c, rfl, hg, a0, a1, a2, a3⟩ := RdT_atE hr hi
  have k0 : (0 : Int) ≤ (i : Int) := by omega
  have k1 : (i : Int) < (ts.length : Int) + 1 := by omega
  have f1 := fz 1
  have hn1 : w.heap.size ≠ rb := by omega
  have hn2 : w.heap.size + 1 ≠ rb := by omega
  have hn3 : w.heap.size ≠ g := by omega
  have hn4 : w.heap.size + 1 ≠ g := by omega
  rcases htk : tk ts E i with ⟨x1, x2, x3, x4⟩
  rw [htk] at a0 a1 a2 a3
  simp only at a0 a1 a2 a3
  clear htk
  unfold tokV
  simp only
  generalize strOf x3 = X at *
  have HP := Lib.hid hp; clear hp
  have HR := Lib.hid hr; clear hr
  have HF := Lib.hid fz; clear fz
  go_enter Try.func51, Try.ntmps51
  go_wp2_with fail
  go_region_held3 (fun w' => w'.cell? ⟨rb, 0, none⟩ = some (.slice (some ⟨g, 0, none⟩) (ts.length + 1) c) ∧ w'.cell? ⟨rb, 1, none⟩ = some (.int .i64 i) ∧ w'.cell? ⟨g, i * 4, none⟩ = some (.int .i64 x1) ∧ w'.cell? ⟨g, i * 4 + 1, none⟩ = some (.int .i64 x2) ∧ w'.cell? ⟨g, i * 4 + 2, none⟩ = some (.string X) ∧ w'.cell? ⟨g, i * 4 + 3, none⟩ = some (.int .i64 x4)) (go_keep) (fail)
  all_goals
    go_wp2_with fail
    refine bodyPost_ret (v := .agg #[.int .i64 x1, .int .i64 x2, .string X, .int .i64 x4]) (by simp [results, Try.results51, go_sem]) rfl ⟨rfl, ?_, ?_⟩
    · exact Fr.drew (Fr.alloc (Fr.alloc (Fr.set w rb 1 _) _) _)
    · exact ((HP.out.seti (i + 1)).alloc _).alloc _

set_option maxRecDepth 100000 in
set_option maxHeartbeats 2000000 in
theorem pass_any (rb : Nat) (vL : Value) (ts : List Tok) (E : Int) (i p : Nat) (ch : UInt8) (s : ByteArray) (w : World) (hp : Rdr w rb vL i p) (hr : RdT w rb vL (withE ts E)) (hi : i ≤ ts.length) (hi2 : ts.length ≤ 4611686018427387904) (hs : s.toList = [ch]) :
    Calls Try.prog 65 #[.pointer (some ⟨rb, 0, none⟩), .string s] w fun e w' => e = .returned (.bool (isM (tk ts E i) ch)) ∧ w.grownBy w' (some rb) ∧ Rdr w' rb vL (if isM (tk ts E i) ch = true then i + 1 else i) p := by
  obtain ⟨hlt, c0, c1, c2, fz⟩ := hp.cells
  obtain ⟨g, c, rfl, hg, a0, a1, a2, a3⟩ := RdT_atE hr hi
  have k0 : (0 : Int) ≤ (i : Int) := by omega
  have k1 : (i : Int) < (ts.length : Int) + 1 := by omega
  have f1 := fz 1
  have hn1 : w.heap.size ≠ rb := by omega
  have hn3 : w.heap.size ≠ g := by omega
  have hm : isM (tk ts E i) ch = true ↔ ((tk ts E i).1 = 1 ∧ (strOf (tk ts E i).2.2.1).toList = s.toList) := by
    rw [strOf_list, hs]; unfold isM; simp
  generalize isM (tk ts E i) ch = b at *
  rcases htk : tk ts E i with ⟨x1, x2, x3, x4⟩
  rw [htk] at a0 a1 a2 a3 hm
  simp only at a0 a1 a2 a3 hm
  clear htk
  generalize strOf x3 = X at *
  have HP := Lib.hid hp; clear hp
  have HR := Lib.hid hr; clear hr
  have HF := Lib.hid fz; clear fz
  have HS := Lib.hid hs; clear hs
  by_cases h1 : x1 = 1
  · by_cases h2 : X.toList = s.toList
    · have hb : b = true := hm.2 ⟨h1, h2⟩
      subst hb
      have t1 : (x1 != 1) = false := by rw [bne_eq_false_iff_eq]; exact h1
      have t2 : (X.toList != s.toList) = false := by rw [bne_eq_false_iff_eq]; exact h2
      have t3 : (x1 == 1) = true := by rw [beq_iff_eq]; exact h1
      have t4 : (X.toList == s.toList) = true := by rw [beq_iff_eq]; exact h2
      clear hm h1 h2
      go_enter Try.func65, Try.ntmps65
      go_wp2_with fail
      go_region_held3 (fun w' => w'.cell? ⟨rb, 0, none⟩ = some (.slice (some ⟨g, 0, none⟩) (ts.length + 1) c) ∧ w'.cell? ⟨rb, 1, none⟩ = some (.int .i64 i) ∧ w'.cell? ⟨g, i * 4, none⟩ = some (.int .i64 x1) ∧ w'.cell? ⟨g, i * 4 + 1, none⟩ = some (.int .i64 x2) ∧ w'.cell? ⟨g, i * 4 + 2, none⟩ = some (.string X) ∧ w'.cell? ⟨g, i * 4 + 3, none⟩ = some (.int .i64 x4)) (go_keep) (fail)
      all_goals
        go_wp2_with fail
        go_ret
        refine ⟨rfl, ?_, ?_⟩
        · exact Fr.drew (Fr.alloc (Fr.set w rb 1 _) _)
        · exact (HP.out.seti (i + 1)).alloc _
    · have hb : b = false := by
        rcases b with _ | _
        · rfl
        · exact absurd (hm.1 rfl).2 h2
      subst hb
      have t1 : (x1 != 1) = false := by rw [bne_eq_false_iff_eq]; exact h1
      have t2 : (X.toList != s.toList) = true := by rw [bne_iff_ne]; exact h2
      have t3 : (x1 == 1) = true := by rw [beq_iff_eq]; exact h1
      have t4 : (X.toList == s.toList) = false := by rw [beq_eq_false_iff_ne]; exact h2
      clear hm h1 h2
      go_enter Try.func65, Try.ntmps65
      go_wp2_with fail
      go_region_held3 (fun w' => w'.cell? ⟨rb, 0, none⟩ = some (.slice (some ⟨g, 0, none⟩) (ts.length + 1) c) ∧ w'.cell? ⟨rb, 1, none⟩ = some (.int .i64 i) ∧ w'.cell? ⟨g, i * 4, none⟩ = some (.int .i64 x1) ∧ w'.cell? ⟨g, i * 4 + 1, none⟩ = some (.int .i64 x2) ∧ w'.cell? ⟨g, i * 4 + 2, none⟩ = some (.string X) ∧ w'.cell? ⟨g, i * 4 + 3, none⟩ = some (.int .i64 x4)) (go_keep) (fail)
      all_goals
        go_wp2_with fail
        go_ret
        refine ⟨rfl, ?_, ?_⟩
        · exact Fr.drew (Fr.of rb ((Below.refl _ _).alloc (Nat.le_refl _) _))
        · exact HP.out.alloc _
  · have hb : b = false := by
      rcases b with _ | _
      · rfl
      · exact absurd (hm.1 rfl).1 h1
    subst hb
    have t1 : (x1 != 1) = true := by rw [bne_iff_ne]; exact h1
    have t3 : (x1 == 1) = false := by rw [beq_eq_false_iff_ne]; exact h1
    clear hm h1
    go_enter Try.func65, Try.ntmps65
    go_wp2_with fail
    go_region_held3 (fun w' => w'.cell? ⟨rb, 0, none⟩ = some (.slice (some ⟨g, 0, none⟩) (ts.length + 1) c) ∧ w'.cell? ⟨rb, 1, none⟩ = some (.int .i64 i) ∧ w'.cell? ⟨g, i * 4, none⟩ = some (.int .i64 x1) ∧ w'.cell? ⟨g, i * 4 + 1, none⟩ = some (.int .i64 x2) ∧ w'.cell? ⟨g, i * 4 + 2, none⟩ = some (.string X) ∧ w'.cell? ⟨g, i * 4 + 3, none⟩ = some (.int .i64 x4)) (go_keep) (fail)
    all_goals
      go_wp2_with fail
      go_ret
      refine ⟨rfl, ?_, ?_⟩
      · exact Fr.drew (Fr.of rb ((Below.refl _ _).alloc (Nat.le_refl _) _))
      · exact HP.out.alloc _

/-- what want hands back: nothing, with the mark gone; or it gives up -/
def GivesW (rb : Nat) (vL : Value) (ok : Bool) (i p : Nat) (a y : Int) (w : World) (e : Ending) (w' : World) : Prop :=
  w.grownBy w' (some rb) ∧ ((ok = true ∧ e = .returned (.tuple #[]) ∧ Rdr w' rb vL i p) ∨ (ok = false ∧ e = Gone a y))

set_option maxRecDepth 100000 in
set_option maxHeartbeats 2000000 in
theorem want_any (rb : Nat) (vL : Value) (ts : List Tok) (E : Int) (i p : Nat) (ch : UInt8) (s : ByteArray) (w : World) (hp : Rdr w rb vL i p) (hr : RdT w rb vL (withE ts E)) (hi : i ≤ ts.length) (hi2 : ts.length ≤ 4611686018427387904) (hs : s.toList = [ch]) :
    Calls Try.prog 52 #[.pointer (some ⟨rb, 0, none⟩), .string s] w (GivesW rb vL (isM (tk ts E i) ch) (i + 1) p (tk ts E i).2.2.2 50 w) := by
  have HP := pass_any rb vL ts E i p ch s w hp hr hi hi2 hs
  have hlt := hp.cells.1
  have HF := fun w1 hp1 (hr1 : RdT w1 rb vL (withE ts E)) => rfail_any rb vL ts E i p 50 w1 hp1 hr1 hi
  have HH := Lib.hid HP; clear HP
  have HG := Lib.hid HF; clear HF
  have HR := Lib.hid hr; clear hr
  clear hp hs
  generalize (tk ts E i).2.2.2 = x4 at *
  by_cases h : isM (tk ts E i) ch = true
  · have HI := Lib.hid h
    rw [h]
    clear h
    go_enter Try.func52, Try.ntmps52
    go_wp2_with fail
    refine HH.out.mono ?_
    rw [HI.out]
    rintro e w1 ⟨rfl, hf, hp1⟩
    go_wp2_with fail
    go_end0
    exact ⟨hf, .inl ⟨rfl, rfl, hp1⟩⟩
  · rw [Bool.not_eq_true] at h
    have HI := Lib.hid h
    rw [h]
    clear h
    go_enter Try.func52, Try.ntmps52
    go_wp2_with fail
    refine HH.out.mono ?_
    rw [HI.out]
    rintro e w1 ⟨rfl, hf, hp1⟩
    go_wp2_with fail
    refine (HG.out w1 hp1 (RdT_fr HR.out (Nat.le_of_lt hlt) hf)).mono ?_
    rintro e w2 ⟨rfl, hb⟩
    exact bodyPost_gone rfl ⟨Fr.trans hf (Fr.of rb hb), .inr ⟨rfl, rfl⟩⟩

/-- what ends hands back: whether the end was there; or it gives up at what should be a comma -/
def GivesE (rb : Nat) (vL : Value) (k : Nat) (i p : Nat) (a y : Int) (w : World) (e : Ending) (w' : World) : Prop :=
  w.grownBy w' (some rb) ∧ ((k = 0 ∧ e = .returned (.bool true) ∧ Rdr w' rb vL (i + 1) p) ∨ (k = 1 ∧ e = .returned (.bool false) ∧ Rdr w' rb vL i p) ∨ (k = 2 ∧ e = .returned (.bool false) ∧ Rdr w' rb vL (i + 1) p) ∨ (k = 3 ∧ e = Gone a y))
/-- which way ends goes -/
def endK (t : Tok) (ch : UInt8) (n : Nat) : Nat := if isM t ch = true then 0 else if n = 0 then 1 else if isM t 44 = true then 2 else 3

set_option maxRecDepth 100000 in
set_option maxHeartbeats 2000000 in
theorem ends_any (rb : Nat) (vL : Value) (ts : List Tok) (E : Int) (i p n : Nat) (ch : UInt8) (s : ByteArray) (w : World) (hp : Rdr w rb vL i p) (hr : RdT w rb vL (withE ts E)) (hi : i ≤ ts.length) (hi2 : ts.length ≤ 4611686018427387904) (hs : s.toList = [ch]) :
    Calls Try.prog 53 #[.pointer (some ⟨rb, 0, none⟩), .string s, .int .i64 n] w (GivesE rb vL (endK (tk ts E i) ch n) i p (tk ts E i).2.2.2 50 w) := by
  have HP := pass_any rb vL ts E i p ch s w hp hr hi hi2 hs
  have hlt := hp.cells.1
  have HW := fun w1 hp1 (hr1 : RdT w1 rb vL (withE ts E)) => want_any rb vL ts E i p 44 ⟨#[44]⟩ w1 hp1 hr1 hi hi2 (by rw [ByteArray.toList_eq])
  have HH := Lib.hid HP; clear HP
  have HG := Lib.hid HW; clear HW
  have HR := Lib.hid hr; clear hr
  clear hp hs
  generalize (tk ts E i).2.2.2 = x4 at *
  unfold endK
  by_cases h : isM (tk ts E i) ch = true
  · have HI := Lib.hid h
    rw [if_pos h]
    clear h
    go_enter Try.func53, Try.ntmps53
    go_wp2_with fail
    refine HH.out.mono ?_
    rw [HI.out]
    rintro e w1 ⟨rfl, hf, hp1⟩
    go_wp2_with fail
    go_ret
    exact ⟨hf, .inl ⟨rfl, rfl, hp1⟩⟩
  · rw [if_neg h]
    rw [Bool.not_eq_true] at h
    have HI := Lib.hid h
    clear h
    by_cases h0 : n = 0
    · subst h0
      rw [if_pos rfl]
      have hd : decide ((0 : Int) < ((0 : Nat) : Int)) = false := rfl
      go_enter Try.func53, Try.ntmps53
      go_wp2_with fail
      refine HH.out.mono ?_
      rw [HI.out]
      rintro e w1 ⟨rfl, hf, hp1⟩
      go_wp2_with fail
      go_ret
      exact ⟨hf, .inr (.inl ⟨rfl, rfl, hp1⟩)⟩
    · rw [if_neg h0]
      have hd : decide ((0 : Int) < (n : Int)) = true := decide_eq_true (by omega)
      have hd2 : decide (0 < n) = true := decide_eq_true (by omega)
      clear h0
      by_cases hc : isM (tk ts E i) 44 = true
      · have HC := Lib.hid hc
        rw [if_pos hc]
        clear hc
        go_enter Try.func53, Try.ntmps53
        go_wp2_with fail
        refine HH.out.mono ?_
        rw [HI.out]
        rintro e w1 ⟨rfl, hf, hp1⟩
        go_wp2_with fail
        refine (HG.out w1 hp1 (RdT_fr HR.out (Nat.le_of_lt hlt) hf)).mono ?_
        rw [HC.out]
        rintro e w2 ⟨hf2, ⟨_, rfl, hp2⟩ | ⟨h, _⟩⟩
        · go_wp2_with fail
          go_ret
          exact ⟨Fr.trans hf hf2, .inr (.inr (.inl ⟨rfl, rfl, hp2⟩))⟩
        · cases h
      · rw [if_neg hc]
        rw [Bool.not_eq_true] at hc
        have HC := Lib.hid hc
        clear hc
        go_enter Try.func53, Try.ntmps53
        go_wp2_with fail
        refine HH.out.mono ?_
        rw [HI.out]
        rintro e w1 ⟨rfl, hf, hp1⟩
        go_wp2_with fail
        refine (HG.out w1 hp1 (RdT_fr HR.out (Nat.le_of_lt hlt) hf)).mono ?_
        rw [HC.out]
        rintro e w2 ⟨hf2, ⟨h, _⟩ | ⟨_, rfl⟩⟩
        · cases h
        · exact bodyPost_gone rfl ⟨Fr.trans hf hf2, .inr (.inr (.inr ⟨rfl, rfl⟩))⟩

/-- why a value may not begin; 0: it may -/
def begY (k : Int) (d p : Nat) : Int := if k = 0 then 50 else if 16 < d then 51 else if p = 8192 then 53 else 0

set_option maxRecDepth 100000 in
set_option maxHeartbeats 2000000 in
theorem begin_any (rb : Nat) (vL : Value) (ts : List Tok) (E : Int) (i p d : Nat) (k : Int) (w : World) (hp : Rdr w rb vL i p) (hr : RdT w rb vL (withE ts E)) (hi : i ≤ ts.length) (hpp : p ≤ 8192) :
    Calls Try.prog 34 #[.pointer (some ⟨rb, 0, none⟩), .int .i64 k, .int .i64 d] w (GivesW rb vL (decide (begY k d p = 0)) i (p + 1) (tk ts E i).2.2.2 (begY k d p) w) := by
  obtain ⟨hlt, c0, c1, c2, fz⟩ := hp.cells
  have f2 := fz 2
  have HF := fun y => rfail_any rb vL ts E i p y w hp hr hi
  have HG := Lib.hid HF; clear HF
  have HP := Lib.hid hp; clear hp
  clear fz hr
  generalize (tk ts E i).2.2.2 = x4 at *
  unfold begY
  by_cases h0 : k = 0
  · subst h0
    rw [if_pos rfl]
    go_enter Try.func34, Try.ntmps34
    go_wp2_with fail
    refine (HG.out 50).mono ?_
    rintro e w1 ⟨rfl, hb⟩
    exact bodyPost_gone rfl ⟨Fr.of rb hb, .inr ⟨rfl, rfl⟩⟩
  · rw [if_neg h0]
    have t0 : (k == 0) = false := by rw [beq_eq_false_iff_ne]; exact h0
    clear h0
    by_cases h1 : 16 < d
    · rw [if_pos h1]
      have t1 : decide ((16 : Int) < (d : Int)) = true := decide_eq_true (by omega)
      have t2 : decide (16 < d) = true := decide_eq_true (by omega)
      clear h1
      go_enter Try.func34, Try.ntmps34
      go_wp2_with fail
      refine (HG.out 51).mono ?_
      rintro e w1 ⟨rfl, hb⟩
      exact bodyPost_gone rfl ⟨Fr.of rb hb, .inr ⟨rfl, rfl⟩⟩
    · rw [if_neg h1]
      have t1 : decide ((16 : Int) < (d : Int)) = false := decide_eq_false (by omega)
      have t2 : decide (16 < d) = false := decide_eq_false (by omega)
      clear h1
      by_cases h2 : p = 8192
      · rw [if_pos h2]
        have t3 : ((p : Int) == 8192) = true := by rw [beq_iff_eq]; omega
        clear h2
        go_enter Try.func34, Try.ntmps34
        go_wp2_with fail
        refine (HG.out 53).mono ?_
        rintro e w1 ⟨rfl, hb⟩
        exact bodyPost_gone rfl ⟨Fr.of rb hb, .inr ⟨rfl, rfl⟩⟩
      · rw [if_neg h2]
        have t3 : ((p : Int) == 8192) = false := by rw [beq_eq_false_iff_ne]; omega
        clear h2
        go_enter Try.func34, Try.ntmps34
        go_wp2_with fail
        go_end0
        exact ⟨Fr.set w rb 2 _, .inl ⟨rfl, rfl, HP.out.setp (p + 1)⟩⟩
end Go.Proofs.Ytcbiaflbncfliaa.Re
