import Derived.Test.YtcbiaflbncfliaaDoorEmR1
import Derived.Test.YtcbiaflbncfliaaDoorEmB
/- Contracts of the document's answer: own. Written by tools/genEmR2.py. -/
namespace Go.Proofs.YtcbiaflbncfliaaDoor.Em
open Go.RowKit
open Go.Proofs.YtcbiaflbncfliaaDoor.Utf
open Go.Proofs.YtcbiaflbncfliaaDoor.Sc
open Go.Proofs.YtcbiaflbncfliaaDoor.Re

/-- right by itself, as the document asks it -/
def own2 (k n : Int) (S : ByteArray) (s : List UInt8) (a b : Nat) (ns : List (List UInt8)) : Prop :=
  (1 ≤ k ∧ k ≤ 6) ∧ ¬ oth k n S a b ∧ ((k = 2 → n = 0 ∨ n = 1) ∧ (k = 3 → -9007199254740991 ≤ n ∧ n ≤ 9007199254740991)) ∧ okS s ∧ nmsOk ns
set_option linter.unusedSimpArgs false
theorem own2_iff {k n : Int} {S : ByteArray} {s : List UInt8} {a b : Nat} {ns : List (List UInt8)} (hS : S.toList = s) (hn : ns.length = b) : own k n s a ns b ↔ own2 k n S s a b ns := by
  unfold own own2 oth
  rw [hS]
  have e0 : okS [] := by decide
  have e1 : nmsOk [] := by decide
  constructor
  · rintro ⟨⟨h1, h2, h3, h4, h5⟩, h6, h7, h8, h9⟩
    refine ⟨h1, ?_, ⟨h6, h7⟩, ?_, ?_⟩
    · rintro (⟨a1, a2⟩ | ⟨a1, a2⟩ | ⟨a1, a2⟩ | ⟨a1, a2⟩)
      · exact a1 (h2 a2)
      · exact a1 (h3 a2)
      · exact a1 (h4 a2)
      · exact a1 (h5 a2)
    · by_cases h : k = 4
      · exact h8 h
      · rw [h3 h]; exact e0
    · by_cases h : k = 6
      · exact h9 h
      · have := h5 h
        have e : ns = [] := List.eq_nil_of_length_eq_zero (by omega)
        rw [e]; exact e1
  · rintro ⟨h1, h2, ⟨h3, h4⟩, h5, h6⟩
    refine ⟨⟨h1, fun e => ?_, fun e => ?_, fun e => ?_, fun e => ?_⟩, h3, h4, fun _ => h5, fun _ => h6⟩
    · exact Classical.byContradiction fun x => h2 (.inl ⟨x, e⟩)
    · exact Classical.byContradiction fun x => h2 (.inr (.inl ⟨x, e⟩))
    · exact Classical.byContradiction fun x => h2 (.inr (.inr (.inl ⟨x, e⟩)))
    · exact Classical.byContradiction fun x => h2 (.inr (.inr (.inr ⟨x, e⟩)))

set_option maxRecDepth 100000 in
set_option maxHeartbeats 16000000 in
theorem rown_any (v : V) (cs : List Value) (lo : Nat) (w : World) (hR : RdA w lo w.heap.size v cs) (h1 : v.s.length ≤ 1048576) (h2 : ∀ x ∈ v.ns, x.length ≤ 1048576) (h3 : v.ms.length ≤ 4611686018427387904) :
    Calls Tryd.prog 25 #[.agg cs.toArray] w (Tells (own v.k v.n v.s v.l.length v.ns v.ms.length) w) := by
  obtain ⟨A, c, A2, c2, rfl, hn, _, hM⟩ := hR.cells
  have hI := own2_iff (k := v.k) (n := v.n) (a := v.l.length) (strOf_list v.s) hn
  have hB := fun w => rBad_any (strOf v.s) w (by rw [strOf_size]; omega)
  rw [strOf_data] at hB
  have hb4 : ((ptsL v.s).2 : Int) = ((strOf v.s).size : Int) ↔ okS v.s := by unfold okS; rw [strOf_size]; omega
  clear hR h1
  generalize own v.k v.n v.s v.l.length v.ns v.ms.length = Q at *
  unfold own2 at hI
  generalize okS v.s = P1 at *
  generalize ((ptsL v.s).2 : Int) = z at *
  generalize hS : strOf v.s = S at *
  clear hS
  generalize v.k = k at *
  generalize v.n = n at *
  generalize v.l.length = a at *
  generalize hlm : v.ms.length = lm at *
  have HI := Lib.hid hI; clear hI
  have HB := Lib.hid hB; clear hB
  have HB4 := Lib.hid hb4; clear hb4
  obtain ⟨w0, hw0⟩ : ∃ z, z = w.alloc (.cells #[.int .i64 k, .int .i64 n, .string S, .slice A a c, .slice A2 lm c2] 25) := ⟨_, rfl⟩
  have hb0 : Below w.heap.size w w0 := by rw [hw0]; exact (Below.refl _ _).alloc (Nat.le_refl _) _
  have hz0 : w0.heap[w.heap.size]? = some (.cells #[.int .i64 k, .int .i64 n, .string S, .slice A a c, .slice A2 lm c2] 25 (0, 0)) := by rw [hw0]; exact heap_alloc_new w _
  have hsz : w0.heap.size = w.heap.size + 1 := by rw [hw0, szAlloc']
  have HZ0 := Lib.hid hz0; clear hz0
  have HB0 := Lib.hid hb0; clear hb0
  have HW0 := Lib.hid hw0; clear hw0
  have f0 : w0.cell? ⟨w.heap.size, 0, none⟩ = some (.int .i64 k) := (cell_of_row _ _ 0 _ _ _ HZ0.out).trans rfl
  have f1 : w0.cell? ⟨w.heap.size, 1, none⟩ = some (.int .i64 n) := (cell_of_row _ _ 1 _ _ _ HZ0.out).trans rfl
  have f2 : w0.cell? ⟨w.heap.size, 2, none⟩ = some (.string S) := (cell_of_row _ _ 2 _ _ _ HZ0.out).trans rfl
  have f3 : w0.cell? ⟨w.heap.size, 3, none⟩ = some (.slice A a c) := (cell_of_row _ _ 3 _ _ _ HZ0.out).trans rfl
  have f4 : w0.cell? ⟨w.heap.size, 4, none⟩ = some (.slice A2 lm c2) := (cell_of_row _ _ 4 _ _ _ HZ0.out).trans rfl
  have hnil : lm = 0 → nmsOk v.ns := fun h => by
    have e : v.ns = [] := List.eq_nil_of_length_eq_zero (by omega)
    rw [e]; decide
  have HNIL := Lib.hid hnil; clear hnil
  by_cases hk : 1 ≤ k ∧ k ≤ 6
  · by_cases hno : oth k n S a lm
    · go_enter Tryd.func25, Tryd.ntmps25
      go_wp2_with fail
      all_goals first
        | (go_ret; exact ⟨⟨false, rfl, ⟨fun h => (by cases h), fun h => absurd hno (HI.out.1 h).2.1⟩⟩, (Below.refl _ _).alloc (Nat.le_refl _) _⟩)
        | (exfalso; unfold oth at hno; clear HI HB HB4 HZ0 HB0 HW0; simp_all; try omega)
    · rcases (show k = 1 ∨ k = 2 ∨ k = 3 ∨ k = 4 ∨ k = 5 ∨ k = 6 by omega) with e | e | e | e | e | e
      · have ka2 : (k == 2) = false := by rw [beq_eq_false_iff_ne]; omega
        have kb2 : (k != 2) = true := by rw [bne_iff_ne]; omega
        have ka3 : (k == 3) = false := by rw [beq_eq_false_iff_ne]; omega
        have kb3 : (k != 3) = true := by rw [bne_iff_ne]; omega
        have ka4 : (k == 4) = false := by rw [beq_eq_false_iff_ne]; omega
        have kb4 : (k != 4) = true := by rw [bne_iff_ne]; omega
        have ka5 : (k == 5) = false := by rw [beq_eq_false_iff_ne]; omega
        have kb5 : (k != 5) = true := by rw [bne_iff_ne]; omega
        have ka6 : (k == 6) = false := by rw [beq_eq_false_iff_ne]; omega
        have kb6 : (k != 6) = true := by rw [bne_iff_ne]; omega
        have kc1 : decide (k < 1) = false := decide_eq_false (by omega)
        have kc2 : decide (6 < k) = false := decide_eq_false (by omega)
        have hS0 : S.toList = [] := Classical.byContradiction fun x => hno (.inr (.inl ⟨x, by omega⟩))
        have hS1 : (S.toList != []) = false := by rw [hS0]; rfl
        have ha0 : a = 0 := Classical.byContradiction fun x => hno (.inr (.inr (.inl ⟨x, by omega⟩)))
        have hm0 : lm = 0 := Classical.byContradiction fun x => hno (.inr (.inr (.inr ⟨x, by omega⟩)))
        have HEM := Lib.hid (HNIL.out hm0)
        have HNO := Lib.hid hno
        have hn0 : n = 0 := Classical.byContradiction fun x => hno (.inl ⟨x, by omega, by omega⟩)
        have u5 : (n != 0) = false := by rw [bne_eq_false_iff_eq]; exact hn0
        have hnum : (k = 2 → n = 0 ∨ n = 1) ∧ (k = 3 → -9007199254740991 ≤ n ∧ n ≤ 9007199254740991) := ⟨fun h => absurd h (by omega), fun h => absurd h (by omega)⟩
        have HNUM := Lib.hid hnum; clear hnum
        clear hn0
        subst ha0
        subst hm0
        have HK := Lib.hid hk
        clear hno hk e
        go_enter Tryd.func25, Tryd.ntmps25
        go_wp2_with fail
        rw [← HW0.out]
        refine wp_region_held_drew (S := (fun w' => w'.cell? ⟨w.heap.size, 0, none⟩ = some (.int .i64 k) ∧ w'.cell? ⟨w.heap.size, 1, none⟩ = some (.int .i64 n) ∧ w'.cell? ⟨w.heap.size, 2, none⟩ = some (.string S))) (by kernel_rfl) (by go_keep) (fun hHeld => ?_)
        refine wpAnyH_take (i := 0) (oi := { dst := some 58, op := Op.fieldAddr 25 (Operand.tmp 1) 0, type := 0, pos := "ref.go:19", after := #[], guard := none }) (v := ?_) rfl (by kernel_rfl) (by kernel_rfl) (by kernel_rfl) (fun _ _ _ h => h) (Or.inl ⟨by rfl, ?_⟩) hHeld ?_
        rotate_left
        · intro w hSw; (try dsimp only at hSw); go_simp; with_reducible rfl
        try simp only [Act.put, List.setIfInBounds_toArray, List.set_cons_zero, List.set_cons_succ, ka2, ka3, u5]
        refine wpAnyH_take (i := 1) (oi := { dst := some 59, op := Op.load 3 (Operand.tmp 58), type := 3, pos := "ref.go:19", after := #[{ on := 0, ground := Ground.data }], guard := none }) (v := ?_) rfl (by kernel_rfl) (by kernel_rfl) (by kernel_rfl) (fun _ _ _ h => h) (Or.inl ⟨by rfl, ?_⟩) hHeld ?_
        rotate_left
        · intro w hSw; (try dsimp only at hSw); go_simp; with_reducible rfl
        try simp only [Act.put, List.setIfInBounds_toArray, List.set_cons_zero, List.set_cons_succ, ka2, ka3, u5]
        refine wpAnyH_take (i := 2) (oi := { dst := some 60, op := Op.binOp BinOp.eql 3 (Operand.tmp 59) (Operand.const (Value.int IntKind.i64 2)) 3, type := 4, pos := "ref.go:19", after := #[{ on := 1, ground := Ground.data }], guard := none }) (v := ?_) rfl (by kernel_rfl) (by kernel_rfl) (by kernel_rfl) (fun _ _ _ h => h) (Or.inl ⟨by rfl, ?_⟩) hHeld ?_
        rotate_left
        · intro w hSw; (try dsimp only at hSw); go_simp; with_reducible rfl
        try simp only [Act.put, List.setIfInBounds_toArray, List.set_cons_zero, List.set_cons_succ, ka2, ka3, u5]
        refine wpAnyH_take (i := 3) (oi := { dst := some 61, op := Op.move (Operand.tmp 60), type := 4, pos := "ref.go:19", after := #[{ on := 2, ground := Ground.data }], guard := none }) (v := ?_) rfl (by kernel_rfl) (by kernel_rfl) (by kernel_rfl) (fun _ _ _ h => h) (Or.inl ⟨by rfl, ?_⟩) hHeld ?_
        rotate_left
        · intro w hSw; (try dsimp only at hSw); go_simp; with_reducible rfl
        try simp only [Act.put, List.setIfInBounds_toArray, List.set_cons_zero, List.set_cons_succ, ka2, ka3, u5]
        refine wpAnyH_take (i := 4) (oi := { dst := some 62, op := Op.fieldAddr 25 (Operand.tmp 1) 1, type := 0, pos := "ref.go:19", after := #[{ on := 3, ground := Ground.guard }], guard := some (3, true) }) (v := undef) rfl (by kernel_rfl) (by kernel_rfl) (by kernel_rfl) (fun _ _ _ h => h) (Or.inr ⟨by rfl, rfl⟩) hHeld ?_
        try simp only [Act.put, List.setIfInBounds_toArray, List.set_cons_zero, List.set_cons_succ, ka2, ka3, u5]
        refine wpAnyH_take (i := 5) (oi := { dst := some 63, op := Op.load 2 (Operand.tmp 62), type := 2, pos := "ref.go:19", after := #[{ on := 4, ground := Ground.data }, { on := 3, ground := Ground.guard }], guard := some (3, true) }) (v := undef) rfl (by kernel_rfl) (by kernel_rfl) (by kernel_rfl) (fun _ _ _ h => h) (Or.inr ⟨by rfl, rfl⟩) hHeld ?_
        try simp only [Act.put, List.setIfInBounds_toArray, List.set_cons_zero, List.set_cons_succ, ka2, ka3, u5]
        refine wpAnyH_take (i := 6) (oi := { dst := some 64, op := Op.binOp BinOp.neq 2 (Operand.tmp 63) (Operand.const (Value.int IntKind.i64 0)) 2, type := 4, pos := "ref.go:19", after := #[{ on := 5, ground := Ground.data }, { on := 3, ground := Ground.guard }], guard := some (3, true) }) (v := undef) rfl (by kernel_rfl) (by kernel_rfl) (by kernel_rfl) (fun _ _ _ h => h) (Or.inr ⟨by rfl, rfl⟩) hHeld ?_
        try simp only [Act.put, List.setIfInBounds_toArray, List.set_cons_zero, List.set_cons_succ, ka2, ka3, u5]
        refine wpAnyH_take (i := 7) (oi := { dst := some 65, op := Op.pick (Operand.tmp 61) (Operand.tmp 64) (Operand.const (Value.bool false)), type := 4, pos := "ref.go:19", after := #[{ on := 3, ground := Ground.data }, { on := 6, ground := Ground.data }], guard := none }) (v := ?_) rfl (by kernel_rfl) (by kernel_rfl) (by kernel_rfl) (fun _ _ _ h => h) (Or.inl ⟨by rfl, ?_⟩) hHeld ?_
        rotate_left
        · intro w hSw; (try dsimp only at hSw); go_simp; with_reducible rfl
        try simp only [Act.put, List.setIfInBounds_toArray, List.set_cons_zero, List.set_cons_succ, ka2, ka3, u5]
        refine wpAnyH_take (i := 8) (oi := { dst := some 66, op := Op.move (Operand.tmp 65), type := 4, pos := "ref.go:19", after := #[{ on := 7, ground := Ground.data }, { on := 3, ground := Ground.chain }], guard := none }) (v := ?_) rfl (by kernel_rfl) (by kernel_rfl) (by kernel_rfl) (fun _ _ _ h => h) (Or.inl ⟨by rfl, ?_⟩) hHeld ?_
        rotate_left
        · intro w hSw; (try dsimp only at hSw); go_simp; with_reducible rfl
        try simp only [Act.put, List.setIfInBounds_toArray, List.set_cons_zero, List.set_cons_succ, ka2, ka3, u5]
        refine wpAnyH_take (i := 9) (oi := { dst := some 67, op := Op.fieldAddr 25 (Operand.tmp 1) 1, type := 0, pos := "ref.go:19", after := #[{ on := 8, ground := Ground.guard }], guard := some (8, true) }) (v := undef) rfl (by kernel_rfl) (by kernel_rfl) (by kernel_rfl) (fun _ _ _ h => h) (Or.inr ⟨by rfl, rfl⟩) hHeld ?_
        try simp only [Act.put, List.setIfInBounds_toArray, List.set_cons_zero, List.set_cons_succ, ka2, ka3, u5]
        refine wpAnyH_take (i := 10) (oi := { dst := some 68, op := Op.load 2 (Operand.tmp 67), type := 2, pos := "ref.go:19", after := #[{ on := 9, ground := Ground.data }, { on := 8, ground := Ground.guard }], guard := some (8, true) }) (v := undef) rfl (by kernel_rfl) (by kernel_rfl) (by kernel_rfl) (fun _ _ _ h => h) (Or.inr ⟨by rfl, rfl⟩) hHeld ?_
        try simp only [Act.put, List.setIfInBounds_toArray, List.set_cons_zero, List.set_cons_succ, ka2, ka3, u5]
        refine wpAnyH_take (i := 11) (oi := { dst := some 69, op := Op.binOp BinOp.neq 2 (Operand.tmp 68) (Operand.const (Value.int IntKind.i64 1)) 2, type := 4, pos := "ref.go:19", after := #[{ on := 10, ground := Ground.data }, { on := 8, ground := Ground.guard }], guard := some (8, true) }) (v := undef) rfl (by kernel_rfl) (by kernel_rfl) (by kernel_rfl) (fun _ _ _ h => h) (Or.inr ⟨by rfl, rfl⟩) hHeld ?_
        try simp only [Act.put, List.setIfInBounds_toArray, List.set_cons_zero, List.set_cons_succ, ka2, ka3, u5]
        refine wpAnyH_take (i := 12) (oi := { dst := some 70, op := Op.pick (Operand.tmp 66) (Operand.tmp 69) (Operand.const (Value.bool false)), type := 4, pos := "ref.go:19", after := #[{ on := 8, ground := Ground.data }, { on := 11, ground := Ground.data }], guard := none }) (v := ?_) rfl (by kernel_rfl) (by kernel_rfl) (by kernel_rfl) (fun _ _ _ h => h) (Or.inl ⟨by rfl, ?_⟩) hHeld ?_
        rotate_left
        · intro w hSw; (try dsimp only at hSw); go_simp; with_reducible rfl
        try simp only [Act.put, List.setIfInBounds_toArray, List.set_cons_zero, List.set_cons_succ, ka2, ka3, u5]
        refine wpAnyH_take (i := 13) (oi := { dst := some 71, op := Op.move (Operand.tmp 70), type := 4, pos := "ref.go:19", after := #[{ on := 12, ground := Ground.data }, { on := 8, ground := Ground.chain }], guard := none }) (v := ?_) rfl (by kernel_rfl) (by kernel_rfl) (by kernel_rfl) (fun _ _ _ h => h) (Or.inl ⟨by rfl, ?_⟩) hHeld ?_
        rotate_left
        · intro w hSw; (try dsimp only at hSw); go_simp; with_reducible rfl
        try simp only [Act.put, List.setIfInBounds_toArray, List.set_cons_zero, List.set_cons_succ, ka2, ka3, u5]
        refine wpAnyH_take (i := 14) (oi := { dst := some 72, op := Op.fieldAddr 25 (Operand.tmp 1) 0, type := 0, pos := "ref.go:19", after := #[{ on := 13, ground := Ground.guard }], guard := some (13, false) }) (v := ?_) rfl (by kernel_rfl) (by kernel_rfl) (by kernel_rfl) (fun _ _ _ h => h) (Or.inl ⟨by rfl, ?_⟩) hHeld ?_
        rotate_left
        · intro w hSw; (try dsimp only at hSw); go_simp; with_reducible rfl
        try simp only [Act.put, List.setIfInBounds_toArray, List.set_cons_zero, List.set_cons_succ, ka2, ka3, u5]
        refine wpAnyH_take (i := 15) (oi := { dst := some 73, op := Op.load 3 (Operand.tmp 72), type := 3, pos := "ref.go:19", after := #[{ on := 14, ground := Ground.data }, { on := 13, ground := Ground.guard }], guard := some (13, false) }) (v := ?_) rfl (by kernel_rfl) (by kernel_rfl) (by kernel_rfl) (fun _ _ _ h => h) (Or.inl ⟨by rfl, ?_⟩) hHeld ?_
        rotate_left
        · intro w hSw; (try dsimp only at hSw); go_simp; with_reducible rfl
        try simp only [Act.put, List.setIfInBounds_toArray, List.set_cons_zero, List.set_cons_succ, ka2, ka3, u5]
        refine wpAnyH_take (i := 16) (oi := { dst := some 74, op := Op.binOp BinOp.eql 3 (Operand.tmp 73) (Operand.const (Value.int IntKind.i64 3)) 3, type := 4, pos := "ref.go:19", after := #[{ on := 15, ground := Ground.data }, { on := 13, ground := Ground.guard }], guard := some (13, false) }) (v := ?_) rfl (by kernel_rfl) (by kernel_rfl) (by kernel_rfl) (fun _ _ _ h => h) (Or.inl ⟨by rfl, ?_⟩) hHeld ?_
        rotate_left
        · intro w hSw; (try dsimp only at hSw); go_simp; with_reducible rfl
        try simp only [Act.put, List.setIfInBounds_toArray, List.set_cons_zero, List.set_cons_succ, ka2, ka3, u5]
        refine wpAnyH_take (i := 17) (oi := { dst := some 75, op := Op.move (Operand.tmp 74), type := 4, pos := "ref.go:19", after := #[{ on := 16, ground := Ground.data }, { on := 13, ground := Ground.chain }, { on := 13, ground := Ground.guard }], guard := some (13, false) }) (v := ?_) rfl (by kernel_rfl) (by kernel_rfl) (by kernel_rfl) (fun _ _ _ h => h) (Or.inl ⟨by rfl, ?_⟩) hHeld ?_
        rotate_left
        · intro w hSw; (try dsimp only at hSw); go_simp; with_reducible rfl
        try simp only [Act.put, List.setIfInBounds_toArray, List.set_cons_zero, List.set_cons_succ, ka2, ka3, u5]
        refine wpAnyH_take (i := 18) (oi := { dst := some 76, op := Op.fieldAddr 25 (Operand.tmp 1) 1, type := 0, pos := "ref.go:19", after := #[{ on := 17, ground := Ground.guard }], guard := some (17, true) }) (v := undef) rfl (by kernel_rfl) (by kernel_rfl) (by kernel_rfl) (fun _ _ _ h => h) (Or.inr ⟨by rfl, rfl⟩) hHeld ?_
        try simp only [Act.put, List.setIfInBounds_toArray, List.set_cons_zero, List.set_cons_succ, ka2, ka3, u5]
        refine wpAnyH_take (i := 19) (oi := { dst := some 77, op := Op.load 2 (Operand.tmp 76), type := 2, pos := "ref.go:19", after := #[{ on := 18, ground := Ground.data }, { on := 17, ground := Ground.guard }], guard := some (17, true) }) (v := undef) rfl (by kernel_rfl) (by kernel_rfl) (by kernel_rfl) (fun _ _ _ h => h) (Or.inr ⟨by rfl, rfl⟩) hHeld ?_
        try simp only [Act.put, List.setIfInBounds_toArray, List.set_cons_zero, List.set_cons_succ, ka2, ka3, u5]
        refine wpAnyH_take (i := 20) (oi := { dst := some 78, op := Op.binOp BinOp.lss 2 (Operand.tmp 77) (Operand.const (Value.int IntKind.i64 (-9007199254740991))) 2, type := 4, pos := "ref.go:19", after := #[{ on := 19, ground := Ground.data }, { on := 17, ground := Ground.guard }], guard := some (17, true) }) (v := undef) rfl (by kernel_rfl) (by kernel_rfl) (by kernel_rfl) (fun _ _ _ h => h) (Or.inr ⟨by rfl, rfl⟩) hHeld ?_
        try simp only [Act.put, List.setIfInBounds_toArray, List.set_cons_zero, List.set_cons_succ, ka2, ka3, u5]
        refine wpAnyH_take (i := 21) (oi := { dst := some 79, op := Op.move (Operand.tmp 78), type := 4, pos := "ref.go:19", after := #[{ on := 20, ground := Ground.data }, { on := 17, ground := Ground.chain }, { on := 17, ground := Ground.guard }], guard := some (17, true) }) (v := undef) rfl (by kernel_rfl) (by kernel_rfl) (by kernel_rfl) (fun _ _ _ h => h) (Or.inr ⟨by rfl, rfl⟩) hHeld ?_
        try simp only [Act.put, List.setIfInBounds_toArray, List.set_cons_zero, List.set_cons_succ, ka2, ka3, u5]
        refine wpAnyH_take (i := 22) (oi := { dst := some 80, op := Op.fieldAddr 25 (Operand.tmp 1) 1, type := 0, pos := "ref.go:19", after := #[{ on := 21, ground := Ground.guard }], guard := some (21, false) }) (v := undef) rfl (by kernel_rfl) (by kernel_rfl) (by kernel_rfl) (fun _ _ _ h => h) (Or.inr ⟨by rfl, rfl⟩) hHeld ?_
        try simp only [Act.put, List.setIfInBounds_toArray, List.set_cons_zero, List.set_cons_succ, ka2, ka3, u5]
        refine wpAnyH_take (i := 23) (oi := { dst := some 81, op := Op.load 2 (Operand.tmp 80), type := 2, pos := "ref.go:19", after := #[{ on := 22, ground := Ground.data }, { on := 21, ground := Ground.guard }], guard := some (21, false) }) (v := undef) rfl (by kernel_rfl) (by kernel_rfl) (by kernel_rfl) (fun _ _ _ h => h) (Or.inr ⟨by rfl, rfl⟩) hHeld ?_
        try simp only [Act.put, List.setIfInBounds_toArray, List.set_cons_zero, List.set_cons_succ, ka2, ka3, u5]
        refine wpAnyH_take (i := 24) (oi := { dst := some 82, op := Op.binOp BinOp.gtr 2 (Operand.tmp 81) (Operand.const (Value.int IntKind.i64 9007199254740991)) 2, type := 4, pos := "ref.go:19", after := #[{ on := 23, ground := Ground.data }, { on := 21, ground := Ground.guard }], guard := some (21, false) }) (v := undef) rfl (by kernel_rfl) (by kernel_rfl) (by kernel_rfl) (fun _ _ _ h => h) (Or.inr ⟨by rfl, rfl⟩) hHeld ?_
        try simp only [Act.put, List.setIfInBounds_toArray, List.set_cons_zero, List.set_cons_succ, ka2, ka3, u5]
        refine wpAnyH_take (i := 25) (oi := { dst := some 83, op := Op.pick (Operand.tmp 79) (Operand.const (Value.bool true)) (Operand.tmp 82), type := 4, pos := "ref.go:19", after := #[{ on := 21, ground := Ground.data }, { on := 24, ground := Ground.data }, { on := 17, ground := Ground.guard }], guard := some (17, true) }) (v := undef) rfl (by kernel_rfl) (by kernel_rfl) (by kernel_rfl) (fun _ _ _ h => h) (Or.inr ⟨by rfl, rfl⟩) hHeld ?_
        try simp only [Act.put, List.setIfInBounds_toArray, List.set_cons_zero, List.set_cons_succ, ka2, ka3, u5]
        refine wpAnyH_take (i := 26) (oi := { dst := some 84, op := Op.pick (Operand.tmp 75) (Operand.tmp 83) (Operand.const (Value.bool false)), type := 4, pos := "ref.go:19", after := #[{ on := 17, ground := Ground.data }, { on := 25, ground := Ground.data }, { on := 13, ground := Ground.guard }], guard := some (13, false) }) (v := ?_) rfl (by kernel_rfl) (by kernel_rfl) (by kernel_rfl) (fun _ _ _ h => h) (Or.inl ⟨by rfl, ?_⟩) hHeld ?_
        rotate_left
        · intro w hSw; (try dsimp only at hSw); go_simp; with_reducible rfl
        try simp only [Act.put, List.setIfInBounds_toArray, List.set_cons_zero, List.set_cons_succ, ka2, ka3, u5]
        refine wpAnyH_take (i := 27) (oi := { dst := some 85, op := Op.pick (Operand.tmp 71) (Operand.const (Value.bool true)) (Operand.tmp 84), type := 4, pos := "ref.go:19", after := #[{ on := 13, ground := Ground.data }, { on := 26, ground := Ground.data }], guard := none }) (v := ?_) rfl (by kernel_rfl) (by kernel_rfl) (by kernel_rfl) (fun _ _ _ h => h) (Or.inl ⟨by rfl, ?_⟩) hHeld ?_
        rotate_left
        · intro w hSw; (try dsimp only at hSw); go_simp; with_reducible rfl
        try simp only [Act.put, List.setIfInBounds_toArray, List.set_cons_zero, List.set_cons_succ, ka2, ka3, u5]
        refine wpAnyH_take (i := 28) (oi := { dst := some 86, op := Op.move (Operand.tmp 85), type := 4, pos := "ref.go:19", after := #[{ on := 27, ground := Ground.data }, { on := 21, ground := Ground.chain }], guard := none }) (v := ?_) rfl (by kernel_rfl) (by kernel_rfl) (by kernel_rfl) (fun _ _ _ h => h) (Or.inl ⟨by rfl, ?_⟩) hHeld ?_
        rotate_left
        · intro w hSw; (try dsimp only at hSw); go_simp; with_reducible rfl
        try simp only [Act.put, List.setIfInBounds_toArray, List.set_cons_zero, List.set_cons_succ, ka2, ka3, u5]
        refine wpAnyH_take (i := 29) (oi := { dst := some 87, op := Op.fieldAddr 25 (Operand.tmp 1) 2, type := 0, pos := "ref.go:19", after := #[{ on := 28, ground := Ground.guard }], guard := some (28, false) }) (v := ?_) rfl (by kernel_rfl) (by kernel_rfl) (by kernel_rfl) (fun _ _ _ h => h) (Or.inl ⟨by rfl, ?_⟩) hHeld ?_
        rotate_left
        · intro w hSw; (try dsimp only at hSw); go_simp; with_reducible rfl
        try simp only [Act.put, List.setIfInBounds_toArray, List.set_cons_zero, List.set_cons_succ, ka2, ka3, u5]
        refine wpAnyH_take (i := 30) (oi := { dst := some 88, op := Op.load 9 (Operand.tmp 87), type := 9, pos := "ref.go:19", after := #[{ on := 29, ground := Ground.data }, { on := 28, ground := Ground.guard }], guard := some (28, false) }) (v := ?_) rfl (by kernel_rfl) (by kernel_rfl) (by kernel_rfl) (fun _ _ _ h => h) (Or.inl ⟨by rfl, ?_⟩) hHeld ?_
        rotate_left
        · intro w hSw; (try dsimp only at hSw); go_simp; with_reducible rfl
        try simp only [Act.put, List.setIfInBounds_toArray, List.set_cons_zero, List.set_cons_succ, ka2, ka3, u5]
        refine wpAnyH_take (i := 32) (oi := { dst := some 90, op := Op.fieldAddr 25 (Operand.tmp 1) 2, type := 0, pos := "ref.go:19", after := #[{ on := 28, ground := Ground.guard }], guard := some (28, false) }) (v := ?_) rfl (by kernel_rfl) (by kernel_rfl) (by kernel_rfl) (fun _ _ _ h => h) (Or.inl ⟨by rfl, ?_⟩) hHeld ?_
        rotate_left
        · intro w hSw; (try dsimp only at hSw); go_simp; with_reducible rfl
        try simp only [Act.put, List.setIfInBounds_toArray, List.set_cons_zero, List.set_cons_succ, ka2, ka3, u5]
        refine wpAnyH_take (i := 33) (oi := { dst := some 91, op := Op.load 9 (Operand.tmp 90), type := 9, pos := "ref.go:19", after := #[{ on := 32, ground := Ground.data }, { on := 28, ground := Ground.guard }], guard := some (28, false) }) (v := ?_) rfl (by kernel_rfl) (by kernel_rfl) (by kernel_rfl) (fun _ _ _ h => h) (Or.inl ⟨by rfl, ?_⟩) hHeld ?_
        rotate_left
        · intro w hSw; (try dsimp only at hSw); go_simp; with_reducible rfl
        try simp only [Act.put, List.setIfInBounds_toArray, List.set_cons_zero, List.set_cons_succ, ka2, ka3, u5]
        refine wpAnyH_take (i := 34) (oi := { dst := some 92, op := Op.call { callee := Callee.builtin Builtin.len, args := #[Operand.tmp 91], argTypes := #[9] }, type := 3, pos := "ref.go:19", after := #[{ on := 33, ground := Ground.data }, { on := 28, ground := Ground.guard }], guard := some (28, false) }) (v := ?_) rfl (by kernel_rfl) (by kernel_rfl) (by kernel_rfl) (fun _ _ _ h => h) (Or.inl ⟨by rfl, ?_⟩) hHeld ?_
        rotate_left
        · intro w hSw; (try dsimp only at hSw); go_simp; with_reducible rfl
        try simp only [Act.put, List.setIfInBounds_toArray, List.set_cons_zero, List.set_cons_succ, ka2, ka3, u5]
        refine wpAnyH_ready (rs := [31]) (by kernel_rfl) (by simp) ?_
        refine AllReadyH.cons (o := { dst := some 89, op := Op.call { callee := Callee.value (Operand.func 35), args := #[Operand.tmp 88], argTypes := #[9] }, type := 3, pos := "ref.go:19", after := #[{ on := 30, ground := Ground.data }, { on := 28, ground := Ground.chain }, { on := 28, ground := Ground.guard }], guard := some (28, false) }) rfl (fun K hK => ?_) AllReadyH.nil
        go_simp
        refine (HB.out _).mono ?_
        rintro e w1 ⟨rfl, hb1⟩
        refine hK.out _ _ ⟨(hb1.cell (p := ⟨w.heap.size, 0, none⟩) (by show w.heap.size < w0.heap.size; omega)).trans f0, (hb1.cell (p := ⟨w.heap.size, 1, none⟩) (by show w.heap.size < w0.heap.size; omega)).trans f1, (hb1.cell (p := ⟨w.heap.size, 2, none⟩) (by show w.heap.size < w0.heap.size; omega)).trans f2⟩ (fun hHeld => ?_)
        clear hK K
        try simp only [Act.put, List.setIfInBounds_toArray, List.set_cons_zero, List.set_cons_succ, ka2, ka3, u5]
        refine wpAnyH_take (i := 35) (oi := { dst := some 93, op := Op.binOp BinOp.neq 3 (Operand.tmp 89) (Operand.tmp 92) 3, type := 4, pos := "ref.go:19", after := #[{ on := 31, ground := Ground.data }, { on := 34, ground := Ground.data }, { on := 28, ground := Ground.guard }], guard := some (28, false) }) (v := ?_) rfl (by kernel_rfl) (by kernel_rfl) (by kernel_rfl) (fun _ _ _ h => h) (Or.inl ⟨by rfl, ?_⟩) hHeld ?_
        rotate_left
        · intro w hSw; (try dsimp only at hSw); go_simp; with_reducible rfl
        try simp only [Act.put, List.setIfInBounds_toArray, List.set_cons_zero, List.set_cons_succ, ka2, ka3, u5]
        refine wpAnyH_take (i := 36) (oi := { dst := some 94, op := Op.pick (Operand.tmp 86) (Operand.const (Value.bool true)) (Operand.tmp 93), type := 4, pos := "ref.go:19", after := #[{ on := 28, ground := Ground.data }, { on := 35, ground := Ground.data }], guard := none }) (v := ?_) rfl (by kernel_rfl) (by kernel_rfl) (by kernel_rfl) (fun _ _ _ h => h) (Or.inl ⟨by rfl, ?_⟩) hHeld ?_
        rotate_left
        · intro w hSw; (try dsimp only at hSw); go_simp; with_reducible rfl
        try simp only [Act.put, List.setIfInBounds_toArray, List.set_cons_zero, List.set_cons_succ, ka2, ka3, u5]
        refine wpAnyH_done (by kernel_rfl) ?_ _
        have hb1' := (Below.refl w0.heap.size w0).drew.trans hb1
        have d4 := (hb1'.cell (p := ⟨w.heap.size, 4, none⟩) (by show w.heap.size < _; omega)).trans f4
        have HB1 := Lib.hid (HB0.out.trans (hb1'.mono (by omega)))
        have s1 := hb1'.size
        clear hb1 hb1'
        by_cases hz : z = (S.size : Int)
        · have hp := HB4.out.1 hz
          have HP := Lib.hid hp
          have t1 : (z != (S.size : Int)) = false := by rw [bne_eq_false_iff_eq]; exact hz
          clear hz hp
          simp only [t1]
          go_wp2_with fail
          go_loopw [3, 4] (fun i _ wr => i = .int .i64 0 ∧ Below (w.heap.size + 1) w1 wr) (fun _ _ _ => 0)
          case atStart => exact ⟨rfl, (Below.refl w1.heap.size w1).mono (by omega)⟩
          case round =>
            obtain ⟨rfl, hbr⟩ := hrel
            have e4 := (hbr.cell (p := ⟨w.heap.size, 4, none⟩) (by show w.heap.size < _; omega)).trans d4
            have HBR := Lib.hid (HB1.out.trans (hbr.mono (by omega)))
            clear hbr
            go_wp2_with fail
            go_ret
            exact ⟨⟨true, rfl, ⟨fun _ => HI.out.2 ⟨HK.out, HNO.out, HNUM.out, HP.out, HEM.out⟩, fun _ => rfl⟩⟩, HBR.out⟩
        · have t1 : (z != (S.size : Int)) = true := by rw [bne_iff_ne]; exact hz
          have HZ := Lib.hid hz; clear hz
          go_wp2_with fail
          go_ret
          exact ⟨⟨false, rfl, ⟨fun h => (by cases h), fun h => absurd (HB4.out.2 (HI.out.1 h).2.2.2.1) HZ.out⟩⟩, HB1.out⟩
      · by_cases q5 : n = 0
        · have ka2 : (k == 2) = true := by rw [beq_iff_eq]; exact e
          have kb2 : (k != 2) = false := by rw [bne_eq_false_iff_eq]; exact e
          have ka3 : (k == 3) = false := by rw [beq_eq_false_iff_ne]; omega
          have kb3 : (k != 3) = true := by rw [bne_iff_ne]; omega
          have ka4 : (k == 4) = false := by rw [beq_eq_false_iff_ne]; omega
          have kb4 : (k != 4) = true := by rw [bne_iff_ne]; omega
          have ka5 : (k == 5) = false := by rw [beq_eq_false_iff_ne]; omega
          have kb5 : (k != 5) = true := by rw [bne_iff_ne]; omega
          have ka6 : (k == 6) = false := by rw [beq_eq_false_iff_ne]; omega
          have kb6 : (k != 6) = true := by rw [bne_iff_ne]; omega
          have kc1 : decide (k < 1) = false := decide_eq_false (by omega)
          have kc2 : decide (6 < k) = false := decide_eq_false (by omega)
          have hS0 : S.toList = [] := Classical.byContradiction fun x => hno (.inr (.inl ⟨x, by omega⟩))
          have hS1 : (S.toList != []) = false := by rw [hS0]; rfl
          have ha0 : a = 0 := Classical.byContradiction fun x => hno (.inr (.inr (.inl ⟨x, by omega⟩)))
          have hm0 : lm = 0 := Classical.byContradiction fun x => hno (.inr (.inr (.inr ⟨x, by omega⟩)))
          have HEM := Lib.hid (HNIL.out hm0)
          have HNO := Lib.hid hno
          have u5 : (n != 0) = false := by rw [bne_eq_false_iff_eq]; exact q5
          have hnum : (k = 2 → n = 0 ∨ n = 1) ∧ (k = 3 → -9007199254740991 ≤ n ∧ n ≤ 9007199254740991) := ⟨fun _ => .inl q5, fun h => absurd h (by omega)⟩
          have HNUM := Lib.hid hnum; clear hnum
          clear q5 e
          subst ha0
          subst hm0
          have HK := Lib.hid hk
          clear hno hk
          go_enter Tryd.func25, Tryd.ntmps25
          go_wp2_with fail
          rw [← HW0.out]
          refine wp_region_held_drew (S := (fun w' => w'.cell? ⟨w.heap.size, 0, none⟩ = some (.int .i64 k) ∧ w'.cell? ⟨w.heap.size, 1, none⟩ = some (.int .i64 n) ∧ w'.cell? ⟨w.heap.size, 2, none⟩ = some (.string S))) (by kernel_rfl) (by go_keep) (fun hHeld => ?_)
          refine wpAnyH_take (i := 0) (oi := { dst := some 58, op := Op.fieldAddr 25 (Operand.tmp 1) 0, type := 0, pos := "ref.go:19", after := #[], guard := none }) (v := ?_) rfl (by kernel_rfl) (by kernel_rfl) (by kernel_rfl) (fun _ _ _ h => h) (Or.inl ⟨by rfl, ?_⟩) hHeld ?_
          rotate_left
          · intro w hSw; (try dsimp only at hSw); go_simp; with_reducible rfl
          try simp only [Act.put, List.setIfInBounds_toArray, List.set_cons_zero, List.set_cons_succ, ka2, ka3, u5]
          refine wpAnyH_take (i := 1) (oi := { dst := some 59, op := Op.load 3 (Operand.tmp 58), type := 3, pos := "ref.go:19", after := #[{ on := 0, ground := Ground.data }], guard := none }) (v := ?_) rfl (by kernel_rfl) (by kernel_rfl) (by kernel_rfl) (fun _ _ _ h => h) (Or.inl ⟨by rfl, ?_⟩) hHeld ?_
          rotate_left
          · intro w hSw; (try dsimp only at hSw); go_simp; with_reducible rfl
          try simp only [Act.put, List.setIfInBounds_toArray, List.set_cons_zero, List.set_cons_succ, ka2, ka3, u5]
          refine wpAnyH_take (i := 2) (oi := { dst := some 60, op := Op.binOp BinOp.eql 3 (Operand.tmp 59) (Operand.const (Value.int IntKind.i64 2)) 3, type := 4, pos := "ref.go:19", after := #[{ on := 1, ground := Ground.data }], guard := none }) (v := ?_) rfl (by kernel_rfl) (by kernel_rfl) (by kernel_rfl) (fun _ _ _ h => h) (Or.inl ⟨by rfl, ?_⟩) hHeld ?_
          rotate_left
          · intro w hSw; (try dsimp only at hSw); go_simp; with_reducible rfl
          try simp only [Act.put, List.setIfInBounds_toArray, List.set_cons_zero, List.set_cons_succ, ka2, ka3, u5]
          refine wpAnyH_take (i := 3) (oi := { dst := some 61, op := Op.move (Operand.tmp 60), type := 4, pos := "ref.go:19", after := #[{ on := 2, ground := Ground.data }], guard := none }) (v := ?_) rfl (by kernel_rfl) (by kernel_rfl) (by kernel_rfl) (fun _ _ _ h => h) (Or.inl ⟨by rfl, ?_⟩) hHeld ?_
          rotate_left
          · intro w hSw; (try dsimp only at hSw); go_simp; with_reducible rfl
          try simp only [Act.put, List.setIfInBounds_toArray, List.set_cons_zero, List.set_cons_succ, ka2, ka3, u5]
          refine wpAnyH_take (i := 4) (oi := { dst := some 62, op := Op.fieldAddr 25 (Operand.tmp 1) 1, type := 0, pos := "ref.go:19", after := #[{ on := 3, ground := Ground.guard }], guard := some (3, true) }) (v := ?_) rfl (by kernel_rfl) (by kernel_rfl) (by kernel_rfl) (fun _ _ _ h => h) (Or.inl ⟨by rfl, ?_⟩) hHeld ?_
          rotate_left
          · intro w hSw; (try dsimp only at hSw); go_simp; with_reducible rfl
          try simp only [Act.put, List.setIfInBounds_toArray, List.set_cons_zero, List.set_cons_succ, ka2, ka3, u5]
          refine wpAnyH_take (i := 5) (oi := { dst := some 63, op := Op.load 2 (Operand.tmp 62), type := 2, pos := "ref.go:19", after := #[{ on := 4, ground := Ground.data }, { on := 3, ground := Ground.guard }], guard := some (3, true) }) (v := ?_) rfl (by kernel_rfl) (by kernel_rfl) (by kernel_rfl) (fun _ _ _ h => h) (Or.inl ⟨by rfl, ?_⟩) hHeld ?_
          rotate_left
          · intro w hSw; (try dsimp only at hSw); go_simp; with_reducible rfl
          try simp only [Act.put, List.setIfInBounds_toArray, List.set_cons_zero, List.set_cons_succ, ka2, ka3, u5]
          refine wpAnyH_take (i := 6) (oi := { dst := some 64, op := Op.binOp BinOp.neq 2 (Operand.tmp 63) (Operand.const (Value.int IntKind.i64 0)) 2, type := 4, pos := "ref.go:19", after := #[{ on := 5, ground := Ground.data }, { on := 3, ground := Ground.guard }], guard := some (3, true) }) (v := ?_) rfl (by kernel_rfl) (by kernel_rfl) (by kernel_rfl) (fun _ _ _ h => h) (Or.inl ⟨by rfl, ?_⟩) hHeld ?_
          rotate_left
          · intro w hSw; (try dsimp only at hSw); go_simp; with_reducible rfl
          try simp only [Act.put, List.setIfInBounds_toArray, List.set_cons_zero, List.set_cons_succ, ka2, ka3, u5]
          refine wpAnyH_take (i := 7) (oi := { dst := some 65, op := Op.pick (Operand.tmp 61) (Operand.tmp 64) (Operand.const (Value.bool false)), type := 4, pos := "ref.go:19", after := #[{ on := 3, ground := Ground.data }, { on := 6, ground := Ground.data }], guard := none }) (v := ?_) rfl (by kernel_rfl) (by kernel_rfl) (by kernel_rfl) (fun _ _ _ h => h) (Or.inl ⟨by rfl, ?_⟩) hHeld ?_
          rotate_left
          · intro w hSw; (try dsimp only at hSw); go_simp; with_reducible rfl
          try simp only [Act.put, List.setIfInBounds_toArray, List.set_cons_zero, List.set_cons_succ, ka2, ka3, u5]
          refine wpAnyH_take (i := 8) (oi := { dst := some 66, op := Op.move (Operand.tmp 65), type := 4, pos := "ref.go:19", after := #[{ on := 7, ground := Ground.data }, { on := 3, ground := Ground.chain }], guard := none }) (v := ?_) rfl (by kernel_rfl) (by kernel_rfl) (by kernel_rfl) (fun _ _ _ h => h) (Or.inl ⟨by rfl, ?_⟩) hHeld ?_
          rotate_left
          · intro w hSw; (try dsimp only at hSw); go_simp; with_reducible rfl
          try simp only [Act.put, List.setIfInBounds_toArray, List.set_cons_zero, List.set_cons_succ, ka2, ka3, u5]
          refine wpAnyH_take (i := 9) (oi := { dst := some 67, op := Op.fieldAddr 25 (Operand.tmp 1) 1, type := 0, pos := "ref.go:19", after := #[{ on := 8, ground := Ground.guard }], guard := some (8, true) }) (v := undef) rfl (by kernel_rfl) (by kernel_rfl) (by kernel_rfl) (fun _ _ _ h => h) (Or.inr ⟨by rfl, rfl⟩) hHeld ?_
          try simp only [Act.put, List.setIfInBounds_toArray, List.set_cons_zero, List.set_cons_succ, ka2, ka3, u5]
          refine wpAnyH_take (i := 10) (oi := { dst := some 68, op := Op.load 2 (Operand.tmp 67), type := 2, pos := "ref.go:19", after := #[{ on := 9, ground := Ground.data }, { on := 8, ground := Ground.guard }], guard := some (8, true) }) (v := undef) rfl (by kernel_rfl) (by kernel_rfl) (by kernel_rfl) (fun _ _ _ h => h) (Or.inr ⟨by rfl, rfl⟩) hHeld ?_
          try simp only [Act.put, List.setIfInBounds_toArray, List.set_cons_zero, List.set_cons_succ, ka2, ka3, u5]
          refine wpAnyH_take (i := 11) (oi := { dst := some 69, op := Op.binOp BinOp.neq 2 (Operand.tmp 68) (Operand.const (Value.int IntKind.i64 1)) 2, type := 4, pos := "ref.go:19", after := #[{ on := 10, ground := Ground.data }, { on := 8, ground := Ground.guard }], guard := some (8, true) }) (v := undef) rfl (by kernel_rfl) (by kernel_rfl) (by kernel_rfl) (fun _ _ _ h => h) (Or.inr ⟨by rfl, rfl⟩) hHeld ?_
          try simp only [Act.put, List.setIfInBounds_toArray, List.set_cons_zero, List.set_cons_succ, ka2, ka3, u5]
          refine wpAnyH_take (i := 12) (oi := { dst := some 70, op := Op.pick (Operand.tmp 66) (Operand.tmp 69) (Operand.const (Value.bool false)), type := 4, pos := "ref.go:19", after := #[{ on := 8, ground := Ground.data }, { on := 11, ground := Ground.data }], guard := none }) (v := ?_) rfl (by kernel_rfl) (by kernel_rfl) (by kernel_rfl) (fun _ _ _ h => h) (Or.inl ⟨by rfl, ?_⟩) hHeld ?_
          rotate_left
          · intro w hSw; (try dsimp only at hSw); go_simp; with_reducible rfl
          try simp only [Act.put, List.setIfInBounds_toArray, List.set_cons_zero, List.set_cons_succ, ka2, ka3, u5]
          refine wpAnyH_take (i := 13) (oi := { dst := some 71, op := Op.move (Operand.tmp 70), type := 4, pos := "ref.go:19", after := #[{ on := 12, ground := Ground.data }, { on := 8, ground := Ground.chain }], guard := none }) (v := ?_) rfl (by kernel_rfl) (by kernel_rfl) (by kernel_rfl) (fun _ _ _ h => h) (Or.inl ⟨by rfl, ?_⟩) hHeld ?_
          rotate_left
          · intro w hSw; (try dsimp only at hSw); go_simp; with_reducible rfl
          try simp only [Act.put, List.setIfInBounds_toArray, List.set_cons_zero, List.set_cons_succ, ka2, ka3, u5]
          refine wpAnyH_take (i := 14) (oi := { dst := some 72, op := Op.fieldAddr 25 (Operand.tmp 1) 0, type := 0, pos := "ref.go:19", after := #[{ on := 13, ground := Ground.guard }], guard := some (13, false) }) (v := ?_) rfl (by kernel_rfl) (by kernel_rfl) (by kernel_rfl) (fun _ _ _ h => h) (Or.inl ⟨by rfl, ?_⟩) hHeld ?_
          rotate_left
          · intro w hSw; (try dsimp only at hSw); go_simp; with_reducible rfl
          try simp only [Act.put, List.setIfInBounds_toArray, List.set_cons_zero, List.set_cons_succ, ka2, ka3, u5]
          refine wpAnyH_take (i := 15) (oi := { dst := some 73, op := Op.load 3 (Operand.tmp 72), type := 3, pos := "ref.go:19", after := #[{ on := 14, ground := Ground.data }, { on := 13, ground := Ground.guard }], guard := some (13, false) }) (v := ?_) rfl (by kernel_rfl) (by kernel_rfl) (by kernel_rfl) (fun _ _ _ h => h) (Or.inl ⟨by rfl, ?_⟩) hHeld ?_
          rotate_left
          · intro w hSw; (try dsimp only at hSw); go_simp; with_reducible rfl
          try simp only [Act.put, List.setIfInBounds_toArray, List.set_cons_zero, List.set_cons_succ, ka2, ka3, u5]
          refine wpAnyH_take (i := 16) (oi := { dst := some 74, op := Op.binOp BinOp.eql 3 (Operand.tmp 73) (Operand.const (Value.int IntKind.i64 3)) 3, type := 4, pos := "ref.go:19", after := #[{ on := 15, ground := Ground.data }, { on := 13, ground := Ground.guard }], guard := some (13, false) }) (v := ?_) rfl (by kernel_rfl) (by kernel_rfl) (by kernel_rfl) (fun _ _ _ h => h) (Or.inl ⟨by rfl, ?_⟩) hHeld ?_
          rotate_left
          · intro w hSw; (try dsimp only at hSw); go_simp; with_reducible rfl
          try simp only [Act.put, List.setIfInBounds_toArray, List.set_cons_zero, List.set_cons_succ, ka2, ka3, u5]
          refine wpAnyH_take (i := 17) (oi := { dst := some 75, op := Op.move (Operand.tmp 74), type := 4, pos := "ref.go:19", after := #[{ on := 16, ground := Ground.data }, { on := 13, ground := Ground.chain }, { on := 13, ground := Ground.guard }], guard := some (13, false) }) (v := ?_) rfl (by kernel_rfl) (by kernel_rfl) (by kernel_rfl) (fun _ _ _ h => h) (Or.inl ⟨by rfl, ?_⟩) hHeld ?_
          rotate_left
          · intro w hSw; (try dsimp only at hSw); go_simp; with_reducible rfl
          try simp only [Act.put, List.setIfInBounds_toArray, List.set_cons_zero, List.set_cons_succ, ka2, ka3, u5]
          refine wpAnyH_take (i := 18) (oi := { dst := some 76, op := Op.fieldAddr 25 (Operand.tmp 1) 1, type := 0, pos := "ref.go:19", after := #[{ on := 17, ground := Ground.guard }], guard := some (17, true) }) (v := undef) rfl (by kernel_rfl) (by kernel_rfl) (by kernel_rfl) (fun _ _ _ h => h) (Or.inr ⟨by rfl, rfl⟩) hHeld ?_
          try simp only [Act.put, List.setIfInBounds_toArray, List.set_cons_zero, List.set_cons_succ, ka2, ka3, u5]
          refine wpAnyH_take (i := 19) (oi := { dst := some 77, op := Op.load 2 (Operand.tmp 76), type := 2, pos := "ref.go:19", after := #[{ on := 18, ground := Ground.data }, { on := 17, ground := Ground.guard }], guard := some (17, true) }) (v := undef) rfl (by kernel_rfl) (by kernel_rfl) (by kernel_rfl) (fun _ _ _ h => h) (Or.inr ⟨by rfl, rfl⟩) hHeld ?_
          try simp only [Act.put, List.setIfInBounds_toArray, List.set_cons_zero, List.set_cons_succ, ka2, ka3, u5]
          refine wpAnyH_take (i := 20) (oi := { dst := some 78, op := Op.binOp BinOp.lss 2 (Operand.tmp 77) (Operand.const (Value.int IntKind.i64 (-9007199254740991))) 2, type := 4, pos := "ref.go:19", after := #[{ on := 19, ground := Ground.data }, { on := 17, ground := Ground.guard }], guard := some (17, true) }) (v := undef) rfl (by kernel_rfl) (by kernel_rfl) (by kernel_rfl) (fun _ _ _ h => h) (Or.inr ⟨by rfl, rfl⟩) hHeld ?_
          try simp only [Act.put, List.setIfInBounds_toArray, List.set_cons_zero, List.set_cons_succ, ka2, ka3, u5]
          refine wpAnyH_take (i := 21) (oi := { dst := some 79, op := Op.move (Operand.tmp 78), type := 4, pos := "ref.go:19", after := #[{ on := 20, ground := Ground.data }, { on := 17, ground := Ground.chain }, { on := 17, ground := Ground.guard }], guard := some (17, true) }) (v := undef) rfl (by kernel_rfl) (by kernel_rfl) (by kernel_rfl) (fun _ _ _ h => h) (Or.inr ⟨by rfl, rfl⟩) hHeld ?_
          try simp only [Act.put, List.setIfInBounds_toArray, List.set_cons_zero, List.set_cons_succ, ka2, ka3, u5]
          refine wpAnyH_take (i := 22) (oi := { dst := some 80, op := Op.fieldAddr 25 (Operand.tmp 1) 1, type := 0, pos := "ref.go:19", after := #[{ on := 21, ground := Ground.guard }], guard := some (21, false) }) (v := undef) rfl (by kernel_rfl) (by kernel_rfl) (by kernel_rfl) (fun _ _ _ h => h) (Or.inr ⟨by rfl, rfl⟩) hHeld ?_
          try simp only [Act.put, List.setIfInBounds_toArray, List.set_cons_zero, List.set_cons_succ, ka2, ka3, u5]
          refine wpAnyH_take (i := 23) (oi := { dst := some 81, op := Op.load 2 (Operand.tmp 80), type := 2, pos := "ref.go:19", after := #[{ on := 22, ground := Ground.data }, { on := 21, ground := Ground.guard }], guard := some (21, false) }) (v := undef) rfl (by kernel_rfl) (by kernel_rfl) (by kernel_rfl) (fun _ _ _ h => h) (Or.inr ⟨by rfl, rfl⟩) hHeld ?_
          try simp only [Act.put, List.setIfInBounds_toArray, List.set_cons_zero, List.set_cons_succ, ka2, ka3, u5]
          refine wpAnyH_take (i := 24) (oi := { dst := some 82, op := Op.binOp BinOp.gtr 2 (Operand.tmp 81) (Operand.const (Value.int IntKind.i64 9007199254740991)) 2, type := 4, pos := "ref.go:19", after := #[{ on := 23, ground := Ground.data }, { on := 21, ground := Ground.guard }], guard := some (21, false) }) (v := undef) rfl (by kernel_rfl) (by kernel_rfl) (by kernel_rfl) (fun _ _ _ h => h) (Or.inr ⟨by rfl, rfl⟩) hHeld ?_
          try simp only [Act.put, List.setIfInBounds_toArray, List.set_cons_zero, List.set_cons_succ, ka2, ka3, u5]
          refine wpAnyH_take (i := 25) (oi := { dst := some 83, op := Op.pick (Operand.tmp 79) (Operand.const (Value.bool true)) (Operand.tmp 82), type := 4, pos := "ref.go:19", after := #[{ on := 21, ground := Ground.data }, { on := 24, ground := Ground.data }, { on := 17, ground := Ground.guard }], guard := some (17, true) }) (v := undef) rfl (by kernel_rfl) (by kernel_rfl) (by kernel_rfl) (fun _ _ _ h => h) (Or.inr ⟨by rfl, rfl⟩) hHeld ?_
          try simp only [Act.put, List.setIfInBounds_toArray, List.set_cons_zero, List.set_cons_succ, ka2, ka3, u5]
          refine wpAnyH_take (i := 26) (oi := { dst := some 84, op := Op.pick (Operand.tmp 75) (Operand.tmp 83) (Operand.const (Value.bool false)), type := 4, pos := "ref.go:19", after := #[{ on := 17, ground := Ground.data }, { on := 25, ground := Ground.data }, { on := 13, ground := Ground.guard }], guard := some (13, false) }) (v := ?_) rfl (by kernel_rfl) (by kernel_rfl) (by kernel_rfl) (fun _ _ _ h => h) (Or.inl ⟨by rfl, ?_⟩) hHeld ?_
          rotate_left
          · intro w hSw; (try dsimp only at hSw); go_simp; with_reducible rfl
          try simp only [Act.put, List.setIfInBounds_toArray, List.set_cons_zero, List.set_cons_succ, ka2, ka3, u5]
          refine wpAnyH_take (i := 27) (oi := { dst := some 85, op := Op.pick (Operand.tmp 71) (Operand.const (Value.bool true)) (Operand.tmp 84), type := 4, pos := "ref.go:19", after := #[{ on := 13, ground := Ground.data }, { on := 26, ground := Ground.data }], guard := none }) (v := ?_) rfl (by kernel_rfl) (by kernel_rfl) (by kernel_rfl) (fun _ _ _ h => h) (Or.inl ⟨by rfl, ?_⟩) hHeld ?_
          rotate_left
          · intro w hSw; (try dsimp only at hSw); go_simp; with_reducible rfl
          try simp only [Act.put, List.setIfInBounds_toArray, List.set_cons_zero, List.set_cons_succ, ka2, ka3, u5]
          refine wpAnyH_take (i := 28) (oi := { dst := some 86, op := Op.move (Operand.tmp 85), type := 4, pos := "ref.go:19", after := #[{ on := 27, ground := Ground.data }, { on := 21, ground := Ground.chain }], guard := none }) (v := ?_) rfl (by kernel_rfl) (by kernel_rfl) (by kernel_rfl) (fun _ _ _ h => h) (Or.inl ⟨by rfl, ?_⟩) hHeld ?_
          rotate_left
          · intro w hSw; (try dsimp only at hSw); go_simp; with_reducible rfl
          try simp only [Act.put, List.setIfInBounds_toArray, List.set_cons_zero, List.set_cons_succ, ka2, ka3, u5]
          refine wpAnyH_take (i := 29) (oi := { dst := some 87, op := Op.fieldAddr 25 (Operand.tmp 1) 2, type := 0, pos := "ref.go:19", after := #[{ on := 28, ground := Ground.guard }], guard := some (28, false) }) (v := ?_) rfl (by kernel_rfl) (by kernel_rfl) (by kernel_rfl) (fun _ _ _ h => h) (Or.inl ⟨by rfl, ?_⟩) hHeld ?_
          rotate_left
          · intro w hSw; (try dsimp only at hSw); go_simp; with_reducible rfl
          try simp only [Act.put, List.setIfInBounds_toArray, List.set_cons_zero, List.set_cons_succ, ka2, ka3, u5]
          refine wpAnyH_take (i := 30) (oi := { dst := some 88, op := Op.load 9 (Operand.tmp 87), type := 9, pos := "ref.go:19", after := #[{ on := 29, ground := Ground.data }, { on := 28, ground := Ground.guard }], guard := some (28, false) }) (v := ?_) rfl (by kernel_rfl) (by kernel_rfl) (by kernel_rfl) (fun _ _ _ h => h) (Or.inl ⟨by rfl, ?_⟩) hHeld ?_
          rotate_left
          · intro w hSw; (try dsimp only at hSw); go_simp; with_reducible rfl
          try simp only [Act.put, List.setIfInBounds_toArray, List.set_cons_zero, List.set_cons_succ, ka2, ka3, u5]
          refine wpAnyH_take (i := 32) (oi := { dst := some 90, op := Op.fieldAddr 25 (Operand.tmp 1) 2, type := 0, pos := "ref.go:19", after := #[{ on := 28, ground := Ground.guard }], guard := some (28, false) }) (v := ?_) rfl (by kernel_rfl) (by kernel_rfl) (by kernel_rfl) (fun _ _ _ h => h) (Or.inl ⟨by rfl, ?_⟩) hHeld ?_
          rotate_left
          · intro w hSw; (try dsimp only at hSw); go_simp; with_reducible rfl
          try simp only [Act.put, List.setIfInBounds_toArray, List.set_cons_zero, List.set_cons_succ, ka2, ka3, u5]
          refine wpAnyH_take (i := 33) (oi := { dst := some 91, op := Op.load 9 (Operand.tmp 90), type := 9, pos := "ref.go:19", after := #[{ on := 32, ground := Ground.data }, { on := 28, ground := Ground.guard }], guard := some (28, false) }) (v := ?_) rfl (by kernel_rfl) (by kernel_rfl) (by kernel_rfl) (fun _ _ _ h => h) (Or.inl ⟨by rfl, ?_⟩) hHeld ?_
          rotate_left
          · intro w hSw; (try dsimp only at hSw); go_simp; with_reducible rfl
          try simp only [Act.put, List.setIfInBounds_toArray, List.set_cons_zero, List.set_cons_succ, ka2, ka3, u5]
          refine wpAnyH_take (i := 34) (oi := { dst := some 92, op := Op.call { callee := Callee.builtin Builtin.len, args := #[Operand.tmp 91], argTypes := #[9] }, type := 3, pos := "ref.go:19", after := #[{ on := 33, ground := Ground.data }, { on := 28, ground := Ground.guard }], guard := some (28, false) }) (v := ?_) rfl (by kernel_rfl) (by kernel_rfl) (by kernel_rfl) (fun _ _ _ h => h) (Or.inl ⟨by rfl, ?_⟩) hHeld ?_
          rotate_left
          · intro w hSw; (try dsimp only at hSw); go_simp; with_reducible rfl
          try simp only [Act.put, List.setIfInBounds_toArray, List.set_cons_zero, List.set_cons_succ, ka2, ka3, u5]
          refine wpAnyH_ready (rs := [31]) (by kernel_rfl) (by simp) ?_
          refine AllReadyH.cons (o := { dst := some 89, op := Op.call { callee := Callee.value (Operand.func 35), args := #[Operand.tmp 88], argTypes := #[9] }, type := 3, pos := "ref.go:19", after := #[{ on := 30, ground := Ground.data }, { on := 28, ground := Ground.chain }, { on := 28, ground := Ground.guard }], guard := some (28, false) }) rfl (fun K hK => ?_) AllReadyH.nil
          go_simp
          refine (HB.out _).mono ?_
          rintro e w1 ⟨rfl, hb1⟩
          refine hK.out _ _ ⟨(hb1.cell (p := ⟨w.heap.size, 0, none⟩) (by show w.heap.size < w0.heap.size; omega)).trans f0, (hb1.cell (p := ⟨w.heap.size, 1, none⟩) (by show w.heap.size < w0.heap.size; omega)).trans f1, (hb1.cell (p := ⟨w.heap.size, 2, none⟩) (by show w.heap.size < w0.heap.size; omega)).trans f2⟩ (fun hHeld => ?_)
          clear hK K
          try simp only [Act.put, List.setIfInBounds_toArray, List.set_cons_zero, List.set_cons_succ, ka2, ka3, u5]
          refine wpAnyH_take (i := 35) (oi := { dst := some 93, op := Op.binOp BinOp.neq 3 (Operand.tmp 89) (Operand.tmp 92) 3, type := 4, pos := "ref.go:19", after := #[{ on := 31, ground := Ground.data }, { on := 34, ground := Ground.data }, { on := 28, ground := Ground.guard }], guard := some (28, false) }) (v := ?_) rfl (by kernel_rfl) (by kernel_rfl) (by kernel_rfl) (fun _ _ _ h => h) (Or.inl ⟨by rfl, ?_⟩) hHeld ?_
          rotate_left
          · intro w hSw; (try dsimp only at hSw); go_simp; with_reducible rfl
          try simp only [Act.put, List.setIfInBounds_toArray, List.set_cons_zero, List.set_cons_succ, ka2, ka3, u5]
          refine wpAnyH_take (i := 36) (oi := { dst := some 94, op := Op.pick (Operand.tmp 86) (Operand.const (Value.bool true)) (Operand.tmp 93), type := 4, pos := "ref.go:19", after := #[{ on := 28, ground := Ground.data }, { on := 35, ground := Ground.data }], guard := none }) (v := ?_) rfl (by kernel_rfl) (by kernel_rfl) (by kernel_rfl) (fun _ _ _ h => h) (Or.inl ⟨by rfl, ?_⟩) hHeld ?_
          rotate_left
          · intro w hSw; (try dsimp only at hSw); go_simp; with_reducible rfl
          try simp only [Act.put, List.setIfInBounds_toArray, List.set_cons_zero, List.set_cons_succ, ka2, ka3, u5]
          refine wpAnyH_done (by kernel_rfl) ?_ _
          have hb1' := (Below.refl w0.heap.size w0).drew.trans hb1
          have d4 := (hb1'.cell (p := ⟨w.heap.size, 4, none⟩) (by show w.heap.size < _; omega)).trans f4
          have HB1 := Lib.hid (HB0.out.trans (hb1'.mono (by omega)))
          have s1 := hb1'.size
          clear hb1 hb1'
          by_cases hz : z = (S.size : Int)
          · have hp := HB4.out.1 hz
            have HP := Lib.hid hp
            have t1 : (z != (S.size : Int)) = false := by rw [bne_eq_false_iff_eq]; exact hz
            clear hz hp
            simp only [t1]
            go_wp2_with fail
            go_loopw [3, 4] (fun i _ wr => i = .int .i64 0 ∧ Below (w.heap.size + 1) w1 wr) (fun _ _ _ => 0)
            case atStart => exact ⟨rfl, (Below.refl w1.heap.size w1).mono (by omega)⟩
            case round =>
              obtain ⟨rfl, hbr⟩ := hrel
              have e4 := (hbr.cell (p := ⟨w.heap.size, 4, none⟩) (by show w.heap.size < _; omega)).trans d4
              have HBR := Lib.hid (HB1.out.trans (hbr.mono (by omega)))
              clear hbr
              go_wp2_with fail
              go_ret
              exact ⟨⟨true, rfl, ⟨fun _ => HI.out.2 ⟨HK.out, HNO.out, HNUM.out, HP.out, HEM.out⟩, fun _ => rfl⟩⟩, HBR.out⟩
          · have t1 : (z != (S.size : Int)) = true := by rw [bne_iff_ne]; exact hz
            have HZ := Lib.hid hz; clear hz
            go_wp2_with fail
            go_ret
            exact ⟨⟨false, rfl, ⟨fun h => (by cases h), fun h => absurd (HB4.out.2 (HI.out.1 h).2.2.2.1) HZ.out⟩⟩, HB1.out⟩
        · by_cases q6 : n = 1
          · have ka2 : (k == 2) = true := by rw [beq_iff_eq]; exact e
            have kb2 : (k != 2) = false := by rw [bne_eq_false_iff_eq]; exact e
            have ka3 : (k == 3) = false := by rw [beq_eq_false_iff_ne]; omega
            have kb3 : (k != 3) = true := by rw [bne_iff_ne]; omega
            have ka4 : (k == 4) = false := by rw [beq_eq_false_iff_ne]; omega
            have kb4 : (k != 4) = true := by rw [bne_iff_ne]; omega
            have ka5 : (k == 5) = false := by rw [beq_eq_false_iff_ne]; omega
            have kb5 : (k != 5) = true := by rw [bne_iff_ne]; omega
            have ka6 : (k == 6) = false := by rw [beq_eq_false_iff_ne]; omega
            have kb6 : (k != 6) = true := by rw [bne_iff_ne]; omega
            have kc1 : decide (k < 1) = false := decide_eq_false (by omega)
            have kc2 : decide (6 < k) = false := decide_eq_false (by omega)
            have hS0 : S.toList = [] := Classical.byContradiction fun x => hno (.inr (.inl ⟨x, by omega⟩))
            have hS1 : (S.toList != []) = false := by rw [hS0]; rfl
            have ha0 : a = 0 := Classical.byContradiction fun x => hno (.inr (.inr (.inl ⟨x, by omega⟩)))
            have hm0 : lm = 0 := Classical.byContradiction fun x => hno (.inr (.inr (.inr ⟨x, by omega⟩)))
            have HEM := Lib.hid (HNIL.out hm0)
            have HNO := Lib.hid hno
            have u5 : (n != 0) = true := by rw [bne_iff_ne]; exact q5
            have u6 : (n != 1) = false := by rw [bne_eq_false_iff_eq]; exact q6
            have hnum : (k = 2 → n = 0 ∨ n = 1) ∧ (k = 3 → -9007199254740991 ≤ n ∧ n ≤ 9007199254740991) := ⟨fun _ => .inr q6, fun h => absurd h (by omega)⟩
            have HNUM := Lib.hid hnum; clear hnum
            clear q5 q6 e
            subst ha0
            subst hm0
            have HK := Lib.hid hk
            clear hno hk
            go_enter Tryd.func25, Tryd.ntmps25
            go_wp2_with fail
            rw [← HW0.out]
            refine wp_region_held_drew (S := (fun w' => w'.cell? ⟨w.heap.size, 0, none⟩ = some (.int .i64 k) ∧ w'.cell? ⟨w.heap.size, 1, none⟩ = some (.int .i64 n) ∧ w'.cell? ⟨w.heap.size, 2, none⟩ = some (.string S))) (by kernel_rfl) (by go_keep) (fun hHeld => ?_)
            refine wpAnyH_take (i := 0) (oi := { dst := some 58, op := Op.fieldAddr 25 (Operand.tmp 1) 0, type := 0, pos := "ref.go:19", after := #[], guard := none }) (v := ?_) rfl (by kernel_rfl) (by kernel_rfl) (by kernel_rfl) (fun _ _ _ h => h) (Or.inl ⟨by rfl, ?_⟩) hHeld ?_
            rotate_left
            · intro w hSw; (try dsimp only at hSw); go_simp; with_reducible rfl
            try simp only [Act.put, List.setIfInBounds_toArray, List.set_cons_zero, List.set_cons_succ, ka2, ka3, u5, u6]
            refine wpAnyH_take (i := 1) (oi := { dst := some 59, op := Op.load 3 (Operand.tmp 58), type := 3, pos := "ref.go:19", after := #[{ on := 0, ground := Ground.data }], guard := none }) (v := ?_) rfl (by kernel_rfl) (by kernel_rfl) (by kernel_rfl) (fun _ _ _ h => h) (Or.inl ⟨by rfl, ?_⟩) hHeld ?_
            rotate_left
            · intro w hSw; (try dsimp only at hSw); go_simp; with_reducible rfl
            try simp only [Act.put, List.setIfInBounds_toArray, List.set_cons_zero, List.set_cons_succ, ka2, ka3, u5, u6]
            refine wpAnyH_take (i := 2) (oi := { dst := some 60, op := Op.binOp BinOp.eql 3 (Operand.tmp 59) (Operand.const (Value.int IntKind.i64 2)) 3, type := 4, pos := "ref.go:19", after := #[{ on := 1, ground := Ground.data }], guard := none }) (v := ?_) rfl (by kernel_rfl) (by kernel_rfl) (by kernel_rfl) (fun _ _ _ h => h) (Or.inl ⟨by rfl, ?_⟩) hHeld ?_
            rotate_left
            · intro w hSw; (try dsimp only at hSw); go_simp; with_reducible rfl
            try simp only [Act.put, List.setIfInBounds_toArray, List.set_cons_zero, List.set_cons_succ, ka2, ka3, u5, u6]
            refine wpAnyH_take (i := 3) (oi := { dst := some 61, op := Op.move (Operand.tmp 60), type := 4, pos := "ref.go:19", after := #[{ on := 2, ground := Ground.data }], guard := none }) (v := ?_) rfl (by kernel_rfl) (by kernel_rfl) (by kernel_rfl) (fun _ _ _ h => h) (Or.inl ⟨by rfl, ?_⟩) hHeld ?_
            rotate_left
            · intro w hSw; (try dsimp only at hSw); go_simp; with_reducible rfl
            try simp only [Act.put, List.setIfInBounds_toArray, List.set_cons_zero, List.set_cons_succ, ka2, ka3, u5, u6]
            refine wpAnyH_take (i := 4) (oi := { dst := some 62, op := Op.fieldAddr 25 (Operand.tmp 1) 1, type := 0, pos := "ref.go:19", after := #[{ on := 3, ground := Ground.guard }], guard := some (3, true) }) (v := ?_) rfl (by kernel_rfl) (by kernel_rfl) (by kernel_rfl) (fun _ _ _ h => h) (Or.inl ⟨by rfl, ?_⟩) hHeld ?_
            rotate_left
            · intro w hSw; (try dsimp only at hSw); go_simp; with_reducible rfl
            try simp only [Act.put, List.setIfInBounds_toArray, List.set_cons_zero, List.set_cons_succ, ka2, ka3, u5, u6]
            refine wpAnyH_take (i := 5) (oi := { dst := some 63, op := Op.load 2 (Operand.tmp 62), type := 2, pos := "ref.go:19", after := #[{ on := 4, ground := Ground.data }, { on := 3, ground := Ground.guard }], guard := some (3, true) }) (v := ?_) rfl (by kernel_rfl) (by kernel_rfl) (by kernel_rfl) (fun _ _ _ h => h) (Or.inl ⟨by rfl, ?_⟩) hHeld ?_
            rotate_left
            · intro w hSw; (try dsimp only at hSw); go_simp; with_reducible rfl
            try simp only [Act.put, List.setIfInBounds_toArray, List.set_cons_zero, List.set_cons_succ, ka2, ka3, u5, u6]
            refine wpAnyH_take (i := 6) (oi := { dst := some 64, op := Op.binOp BinOp.neq 2 (Operand.tmp 63) (Operand.const (Value.int IntKind.i64 0)) 2, type := 4, pos := "ref.go:19", after := #[{ on := 5, ground := Ground.data }, { on := 3, ground := Ground.guard }], guard := some (3, true) }) (v := ?_) rfl (by kernel_rfl) (by kernel_rfl) (by kernel_rfl) (fun _ _ _ h => h) (Or.inl ⟨by rfl, ?_⟩) hHeld ?_
            rotate_left
            · intro w hSw; (try dsimp only at hSw); go_simp; with_reducible rfl
            try simp only [Act.put, List.setIfInBounds_toArray, List.set_cons_zero, List.set_cons_succ, ka2, ka3, u5, u6]
            refine wpAnyH_take (i := 7) (oi := { dst := some 65, op := Op.pick (Operand.tmp 61) (Operand.tmp 64) (Operand.const (Value.bool false)), type := 4, pos := "ref.go:19", after := #[{ on := 3, ground := Ground.data }, { on := 6, ground := Ground.data }], guard := none }) (v := ?_) rfl (by kernel_rfl) (by kernel_rfl) (by kernel_rfl) (fun _ _ _ h => h) (Or.inl ⟨by rfl, ?_⟩) hHeld ?_
            rotate_left
            · intro w hSw; (try dsimp only at hSw); go_simp; with_reducible rfl
            try simp only [Act.put, List.setIfInBounds_toArray, List.set_cons_zero, List.set_cons_succ, ka2, ka3, u5, u6]
            refine wpAnyH_take (i := 8) (oi := { dst := some 66, op := Op.move (Operand.tmp 65), type := 4, pos := "ref.go:19", after := #[{ on := 7, ground := Ground.data }, { on := 3, ground := Ground.chain }], guard := none }) (v := ?_) rfl (by kernel_rfl) (by kernel_rfl) (by kernel_rfl) (fun _ _ _ h => h) (Or.inl ⟨by rfl, ?_⟩) hHeld ?_
            rotate_left
            · intro w hSw; (try dsimp only at hSw); go_simp; with_reducible rfl
            try simp only [Act.put, List.setIfInBounds_toArray, List.set_cons_zero, List.set_cons_succ, ka2, ka3, u5, u6]
            refine wpAnyH_take (i := 9) (oi := { dst := some 67, op := Op.fieldAddr 25 (Operand.tmp 1) 1, type := 0, pos := "ref.go:19", after := #[{ on := 8, ground := Ground.guard }], guard := some (8, true) }) (v := ?_) rfl (by kernel_rfl) (by kernel_rfl) (by kernel_rfl) (fun _ _ _ h => h) (Or.inl ⟨by rfl, ?_⟩) hHeld ?_
            rotate_left
            · intro w hSw; (try dsimp only at hSw); go_simp; with_reducible rfl
            try simp only [Act.put, List.setIfInBounds_toArray, List.set_cons_zero, List.set_cons_succ, ka2, ka3, u5, u6]
            refine wpAnyH_take (i := 10) (oi := { dst := some 68, op := Op.load 2 (Operand.tmp 67), type := 2, pos := "ref.go:19", after := #[{ on := 9, ground := Ground.data }, { on := 8, ground := Ground.guard }], guard := some (8, true) }) (v := ?_) rfl (by kernel_rfl) (by kernel_rfl) (by kernel_rfl) (fun _ _ _ h => h) (Or.inl ⟨by rfl, ?_⟩) hHeld ?_
            rotate_left
            · intro w hSw; (try dsimp only at hSw); go_simp; with_reducible rfl
            try simp only [Act.put, List.setIfInBounds_toArray, List.set_cons_zero, List.set_cons_succ, ka2, ka3, u5, u6]
            refine wpAnyH_take (i := 11) (oi := { dst := some 69, op := Op.binOp BinOp.neq 2 (Operand.tmp 68) (Operand.const (Value.int IntKind.i64 1)) 2, type := 4, pos := "ref.go:19", after := #[{ on := 10, ground := Ground.data }, { on := 8, ground := Ground.guard }], guard := some (8, true) }) (v := ?_) rfl (by kernel_rfl) (by kernel_rfl) (by kernel_rfl) (fun _ _ _ h => h) (Or.inl ⟨by rfl, ?_⟩) hHeld ?_
            rotate_left
            · intro w hSw; (try dsimp only at hSw); go_simp; with_reducible rfl
            try simp only [Act.put, List.setIfInBounds_toArray, List.set_cons_zero, List.set_cons_succ, ka2, ka3, u5, u6]
            refine wpAnyH_take (i := 12) (oi := { dst := some 70, op := Op.pick (Operand.tmp 66) (Operand.tmp 69) (Operand.const (Value.bool false)), type := 4, pos := "ref.go:19", after := #[{ on := 8, ground := Ground.data }, { on := 11, ground := Ground.data }], guard := none }) (v := ?_) rfl (by kernel_rfl) (by kernel_rfl) (by kernel_rfl) (fun _ _ _ h => h) (Or.inl ⟨by rfl, ?_⟩) hHeld ?_
            rotate_left
            · intro w hSw; (try dsimp only at hSw); go_simp; with_reducible rfl
            try simp only [Act.put, List.setIfInBounds_toArray, List.set_cons_zero, List.set_cons_succ, ka2, ka3, u5, u6]
            refine wpAnyH_take (i := 13) (oi := { dst := some 71, op := Op.move (Operand.tmp 70), type := 4, pos := "ref.go:19", after := #[{ on := 12, ground := Ground.data }, { on := 8, ground := Ground.chain }], guard := none }) (v := ?_) rfl (by kernel_rfl) (by kernel_rfl) (by kernel_rfl) (fun _ _ _ h => h) (Or.inl ⟨by rfl, ?_⟩) hHeld ?_
            rotate_left
            · intro w hSw; (try dsimp only at hSw); go_simp; with_reducible rfl
            try simp only [Act.put, List.setIfInBounds_toArray, List.set_cons_zero, List.set_cons_succ, ka2, ka3, u5, u6]
            refine wpAnyH_take (i := 14) (oi := { dst := some 72, op := Op.fieldAddr 25 (Operand.tmp 1) 0, type := 0, pos := "ref.go:19", after := #[{ on := 13, ground := Ground.guard }], guard := some (13, false) }) (v := ?_) rfl (by kernel_rfl) (by kernel_rfl) (by kernel_rfl) (fun _ _ _ h => h) (Or.inl ⟨by rfl, ?_⟩) hHeld ?_
            rotate_left
            · intro w hSw; (try dsimp only at hSw); go_simp; with_reducible rfl
            try simp only [Act.put, List.setIfInBounds_toArray, List.set_cons_zero, List.set_cons_succ, ka2, ka3, u5, u6]
            refine wpAnyH_take (i := 15) (oi := { dst := some 73, op := Op.load 3 (Operand.tmp 72), type := 3, pos := "ref.go:19", after := #[{ on := 14, ground := Ground.data }, { on := 13, ground := Ground.guard }], guard := some (13, false) }) (v := ?_) rfl (by kernel_rfl) (by kernel_rfl) (by kernel_rfl) (fun _ _ _ h => h) (Or.inl ⟨by rfl, ?_⟩) hHeld ?_
            rotate_left
            · intro w hSw; (try dsimp only at hSw); go_simp; with_reducible rfl
            try simp only [Act.put, List.setIfInBounds_toArray, List.set_cons_zero, List.set_cons_succ, ka2, ka3, u5, u6]
            refine wpAnyH_take (i := 16) (oi := { dst := some 74, op := Op.binOp BinOp.eql 3 (Operand.tmp 73) (Operand.const (Value.int IntKind.i64 3)) 3, type := 4, pos := "ref.go:19", after := #[{ on := 15, ground := Ground.data }, { on := 13, ground := Ground.guard }], guard := some (13, false) }) (v := ?_) rfl (by kernel_rfl) (by kernel_rfl) (by kernel_rfl) (fun _ _ _ h => h) (Or.inl ⟨by rfl, ?_⟩) hHeld ?_
            rotate_left
            · intro w hSw; (try dsimp only at hSw); go_simp; with_reducible rfl
            try simp only [Act.put, List.setIfInBounds_toArray, List.set_cons_zero, List.set_cons_succ, ka2, ka3, u5, u6]
            refine wpAnyH_take (i := 17) (oi := { dst := some 75, op := Op.move (Operand.tmp 74), type := 4, pos := "ref.go:19", after := #[{ on := 16, ground := Ground.data }, { on := 13, ground := Ground.chain }, { on := 13, ground := Ground.guard }], guard := some (13, false) }) (v := ?_) rfl (by kernel_rfl) (by kernel_rfl) (by kernel_rfl) (fun _ _ _ h => h) (Or.inl ⟨by rfl, ?_⟩) hHeld ?_
            rotate_left
            · intro w hSw; (try dsimp only at hSw); go_simp; with_reducible rfl
            try simp only [Act.put, List.setIfInBounds_toArray, List.set_cons_zero, List.set_cons_succ, ka2, ka3, u5, u6]
            refine wpAnyH_take (i := 18) (oi := { dst := some 76, op := Op.fieldAddr 25 (Operand.tmp 1) 1, type := 0, pos := "ref.go:19", after := #[{ on := 17, ground := Ground.guard }], guard := some (17, true) }) (v := undef) rfl (by kernel_rfl) (by kernel_rfl) (by kernel_rfl) (fun _ _ _ h => h) (Or.inr ⟨by rfl, rfl⟩) hHeld ?_
            try simp only [Act.put, List.setIfInBounds_toArray, List.set_cons_zero, List.set_cons_succ, ka2, ka3, u5, u6]
            refine wpAnyH_take (i := 19) (oi := { dst := some 77, op := Op.load 2 (Operand.tmp 76), type := 2, pos := "ref.go:19", after := #[{ on := 18, ground := Ground.data }, { on := 17, ground := Ground.guard }], guard := some (17, true) }) (v := undef) rfl (by kernel_rfl) (by kernel_rfl) (by kernel_rfl) (fun _ _ _ h => h) (Or.inr ⟨by rfl, rfl⟩) hHeld ?_
            try simp only [Act.put, List.setIfInBounds_toArray, List.set_cons_zero, List.set_cons_succ, ka2, ka3, u5, u6]
            refine wpAnyH_take (i := 20) (oi := { dst := some 78, op := Op.binOp BinOp.lss 2 (Operand.tmp 77) (Operand.const (Value.int IntKind.i64 (-9007199254740991))) 2, type := 4, pos := "ref.go:19", after := #[{ on := 19, ground := Ground.data }, { on := 17, ground := Ground.guard }], guard := some (17, true) }) (v := undef) rfl (by kernel_rfl) (by kernel_rfl) (by kernel_rfl) (fun _ _ _ h => h) (Or.inr ⟨by rfl, rfl⟩) hHeld ?_
            try simp only [Act.put, List.setIfInBounds_toArray, List.set_cons_zero, List.set_cons_succ, ka2, ka3, u5, u6]
            refine wpAnyH_take (i := 21) (oi := { dst := some 79, op := Op.move (Operand.tmp 78), type := 4, pos := "ref.go:19", after := #[{ on := 20, ground := Ground.data }, { on := 17, ground := Ground.chain }, { on := 17, ground := Ground.guard }], guard := some (17, true) }) (v := undef) rfl (by kernel_rfl) (by kernel_rfl) (by kernel_rfl) (fun _ _ _ h => h) (Or.inr ⟨by rfl, rfl⟩) hHeld ?_
            try simp only [Act.put, List.setIfInBounds_toArray, List.set_cons_zero, List.set_cons_succ, ka2, ka3, u5, u6]
            refine wpAnyH_take (i := 22) (oi := { dst := some 80, op := Op.fieldAddr 25 (Operand.tmp 1) 1, type := 0, pos := "ref.go:19", after := #[{ on := 21, ground := Ground.guard }], guard := some (21, false) }) (v := undef) rfl (by kernel_rfl) (by kernel_rfl) (by kernel_rfl) (fun _ _ _ h => h) (Or.inr ⟨by rfl, rfl⟩) hHeld ?_
            try simp only [Act.put, List.setIfInBounds_toArray, List.set_cons_zero, List.set_cons_succ, ka2, ka3, u5, u6]
            refine wpAnyH_take (i := 23) (oi := { dst := some 81, op := Op.load 2 (Operand.tmp 80), type := 2, pos := "ref.go:19", after := #[{ on := 22, ground := Ground.data }, { on := 21, ground := Ground.guard }], guard := some (21, false) }) (v := undef) rfl (by kernel_rfl) (by kernel_rfl) (by kernel_rfl) (fun _ _ _ h => h) (Or.inr ⟨by rfl, rfl⟩) hHeld ?_
            try simp only [Act.put, List.setIfInBounds_toArray, List.set_cons_zero, List.set_cons_succ, ka2, ka3, u5, u6]
            refine wpAnyH_take (i := 24) (oi := { dst := some 82, op := Op.binOp BinOp.gtr 2 (Operand.tmp 81) (Operand.const (Value.int IntKind.i64 9007199254740991)) 2, type := 4, pos := "ref.go:19", after := #[{ on := 23, ground := Ground.data }, { on := 21, ground := Ground.guard }], guard := some (21, false) }) (v := undef) rfl (by kernel_rfl) (by kernel_rfl) (by kernel_rfl) (fun _ _ _ h => h) (Or.inr ⟨by rfl, rfl⟩) hHeld ?_
            try simp only [Act.put, List.setIfInBounds_toArray, List.set_cons_zero, List.set_cons_succ, ka2, ka3, u5, u6]
            refine wpAnyH_take (i := 25) (oi := { dst := some 83, op := Op.pick (Operand.tmp 79) (Operand.const (Value.bool true)) (Operand.tmp 82), type := 4, pos := "ref.go:19", after := #[{ on := 21, ground := Ground.data }, { on := 24, ground := Ground.data }, { on := 17, ground := Ground.guard }], guard := some (17, true) }) (v := undef) rfl (by kernel_rfl) (by kernel_rfl) (by kernel_rfl) (fun _ _ _ h => h) (Or.inr ⟨by rfl, rfl⟩) hHeld ?_
            try simp only [Act.put, List.setIfInBounds_toArray, List.set_cons_zero, List.set_cons_succ, ka2, ka3, u5, u6]
            refine wpAnyH_take (i := 26) (oi := { dst := some 84, op := Op.pick (Operand.tmp 75) (Operand.tmp 83) (Operand.const (Value.bool false)), type := 4, pos := "ref.go:19", after := #[{ on := 17, ground := Ground.data }, { on := 25, ground := Ground.data }, { on := 13, ground := Ground.guard }], guard := some (13, false) }) (v := ?_) rfl (by kernel_rfl) (by kernel_rfl) (by kernel_rfl) (fun _ _ _ h => h) (Or.inl ⟨by rfl, ?_⟩) hHeld ?_
            rotate_left
            · intro w hSw; (try dsimp only at hSw); go_simp; with_reducible rfl
            try simp only [Act.put, List.setIfInBounds_toArray, List.set_cons_zero, List.set_cons_succ, ka2, ka3, u5, u6]
            refine wpAnyH_take (i := 27) (oi := { dst := some 85, op := Op.pick (Operand.tmp 71) (Operand.const (Value.bool true)) (Operand.tmp 84), type := 4, pos := "ref.go:19", after := #[{ on := 13, ground := Ground.data }, { on := 26, ground := Ground.data }], guard := none }) (v := ?_) rfl (by kernel_rfl) (by kernel_rfl) (by kernel_rfl) (fun _ _ _ h => h) (Or.inl ⟨by rfl, ?_⟩) hHeld ?_
            rotate_left
            · intro w hSw; (try dsimp only at hSw); go_simp; with_reducible rfl
            try simp only [Act.put, List.setIfInBounds_toArray, List.set_cons_zero, List.set_cons_succ, ka2, ka3, u5, u6]
            refine wpAnyH_take (i := 28) (oi := { dst := some 86, op := Op.move (Operand.tmp 85), type := 4, pos := "ref.go:19", after := #[{ on := 27, ground := Ground.data }, { on := 21, ground := Ground.chain }], guard := none }) (v := ?_) rfl (by kernel_rfl) (by kernel_rfl) (by kernel_rfl) (fun _ _ _ h => h) (Or.inl ⟨by rfl, ?_⟩) hHeld ?_
            rotate_left
            · intro w hSw; (try dsimp only at hSw); go_simp; with_reducible rfl
            try simp only [Act.put, List.setIfInBounds_toArray, List.set_cons_zero, List.set_cons_succ, ka2, ka3, u5, u6]
            refine wpAnyH_take (i := 29) (oi := { dst := some 87, op := Op.fieldAddr 25 (Operand.tmp 1) 2, type := 0, pos := "ref.go:19", after := #[{ on := 28, ground := Ground.guard }], guard := some (28, false) }) (v := ?_) rfl (by kernel_rfl) (by kernel_rfl) (by kernel_rfl) (fun _ _ _ h => h) (Or.inl ⟨by rfl, ?_⟩) hHeld ?_
            rotate_left
            · intro w hSw; (try dsimp only at hSw); go_simp; with_reducible rfl
            try simp only [Act.put, List.setIfInBounds_toArray, List.set_cons_zero, List.set_cons_succ, ka2, ka3, u5, u6]
            refine wpAnyH_take (i := 30) (oi := { dst := some 88, op := Op.load 9 (Operand.tmp 87), type := 9, pos := "ref.go:19", after := #[{ on := 29, ground := Ground.data }, { on := 28, ground := Ground.guard }], guard := some (28, false) }) (v := ?_) rfl (by kernel_rfl) (by kernel_rfl) (by kernel_rfl) (fun _ _ _ h => h) (Or.inl ⟨by rfl, ?_⟩) hHeld ?_
            rotate_left
            · intro w hSw; (try dsimp only at hSw); go_simp; with_reducible rfl
            try simp only [Act.put, List.setIfInBounds_toArray, List.set_cons_zero, List.set_cons_succ, ka2, ka3, u5, u6]
            refine wpAnyH_take (i := 32) (oi := { dst := some 90, op := Op.fieldAddr 25 (Operand.tmp 1) 2, type := 0, pos := "ref.go:19", after := #[{ on := 28, ground := Ground.guard }], guard := some (28, false) }) (v := ?_) rfl (by kernel_rfl) (by kernel_rfl) (by kernel_rfl) (fun _ _ _ h => h) (Or.inl ⟨by rfl, ?_⟩) hHeld ?_
            rotate_left
            · intro w hSw; (try dsimp only at hSw); go_simp; with_reducible rfl
            try simp only [Act.put, List.setIfInBounds_toArray, List.set_cons_zero, List.set_cons_succ, ka2, ka3, u5, u6]
            refine wpAnyH_take (i := 33) (oi := { dst := some 91, op := Op.load 9 (Operand.tmp 90), type := 9, pos := "ref.go:19", after := #[{ on := 32, ground := Ground.data }, { on := 28, ground := Ground.guard }], guard := some (28, false) }) (v := ?_) rfl (by kernel_rfl) (by kernel_rfl) (by kernel_rfl) (fun _ _ _ h => h) (Or.inl ⟨by rfl, ?_⟩) hHeld ?_
            rotate_left
            · intro w hSw; (try dsimp only at hSw); go_simp; with_reducible rfl
            try simp only [Act.put, List.setIfInBounds_toArray, List.set_cons_zero, List.set_cons_succ, ka2, ka3, u5, u6]
            refine wpAnyH_take (i := 34) (oi := { dst := some 92, op := Op.call { callee := Callee.builtin Builtin.len, args := #[Operand.tmp 91], argTypes := #[9] }, type := 3, pos := "ref.go:19", after := #[{ on := 33, ground := Ground.data }, { on := 28, ground := Ground.guard }], guard := some (28, false) }) (v := ?_) rfl (by kernel_rfl) (by kernel_rfl) (by kernel_rfl) (fun _ _ _ h => h) (Or.inl ⟨by rfl, ?_⟩) hHeld ?_
            rotate_left
            · intro w hSw; (try dsimp only at hSw); go_simp; with_reducible rfl
            try simp only [Act.put, List.setIfInBounds_toArray, List.set_cons_zero, List.set_cons_succ, ka2, ka3, u5, u6]
            refine wpAnyH_ready (rs := [31]) (by kernel_rfl) (by simp) ?_
            refine AllReadyH.cons (o := { dst := some 89, op := Op.call { callee := Callee.value (Operand.func 35), args := #[Operand.tmp 88], argTypes := #[9] }, type := 3, pos := "ref.go:19", after := #[{ on := 30, ground := Ground.data }, { on := 28, ground := Ground.chain }, { on := 28, ground := Ground.guard }], guard := some (28, false) }) rfl (fun K hK => ?_) AllReadyH.nil
            go_simp
            refine (HB.out _).mono ?_
            rintro e w1 ⟨rfl, hb1⟩
            refine hK.out _ _ ⟨(hb1.cell (p := ⟨w.heap.size, 0, none⟩) (by show w.heap.size < w0.heap.size; omega)).trans f0, (hb1.cell (p := ⟨w.heap.size, 1, none⟩) (by show w.heap.size < w0.heap.size; omega)).trans f1, (hb1.cell (p := ⟨w.heap.size, 2, none⟩) (by show w.heap.size < w0.heap.size; omega)).trans f2⟩ (fun hHeld => ?_)
            clear hK K
            try simp only [Act.put, List.setIfInBounds_toArray, List.set_cons_zero, List.set_cons_succ, ka2, ka3, u5, u6]
            refine wpAnyH_take (i := 35) (oi := { dst := some 93, op := Op.binOp BinOp.neq 3 (Operand.tmp 89) (Operand.tmp 92) 3, type := 4, pos := "ref.go:19", after := #[{ on := 31, ground := Ground.data }, { on := 34, ground := Ground.data }, { on := 28, ground := Ground.guard }], guard := some (28, false) }) (v := ?_) rfl (by kernel_rfl) (by kernel_rfl) (by kernel_rfl) (fun _ _ _ h => h) (Or.inl ⟨by rfl, ?_⟩) hHeld ?_
            rotate_left
            · intro w hSw; (try dsimp only at hSw); go_simp; with_reducible rfl
            try simp only [Act.put, List.setIfInBounds_toArray, List.set_cons_zero, List.set_cons_succ, ka2, ka3, u5, u6]
            refine wpAnyH_take (i := 36) (oi := { dst := some 94, op := Op.pick (Operand.tmp 86) (Operand.const (Value.bool true)) (Operand.tmp 93), type := 4, pos := "ref.go:19", after := #[{ on := 28, ground := Ground.data }, { on := 35, ground := Ground.data }], guard := none }) (v := ?_) rfl (by kernel_rfl) (by kernel_rfl) (by kernel_rfl) (fun _ _ _ h => h) (Or.inl ⟨by rfl, ?_⟩) hHeld ?_
            rotate_left
            · intro w hSw; (try dsimp only at hSw); go_simp; with_reducible rfl
            try simp only [Act.put, List.setIfInBounds_toArray, List.set_cons_zero, List.set_cons_succ, ka2, ka3, u5, u6]
            refine wpAnyH_done (by kernel_rfl) ?_ _
            have hb1' := (Below.refl w0.heap.size w0).drew.trans hb1
            have d4 := (hb1'.cell (p := ⟨w.heap.size, 4, none⟩) (by show w.heap.size < _; omega)).trans f4
            have HB1 := Lib.hid (HB0.out.trans (hb1'.mono (by omega)))
            have s1 := hb1'.size
            clear hb1 hb1'
            by_cases hz : z = (S.size : Int)
            · have hp := HB4.out.1 hz
              have HP := Lib.hid hp
              have t1 : (z != (S.size : Int)) = false := by rw [bne_eq_false_iff_eq]; exact hz
              clear hz hp
              simp only [t1]
              go_wp2_with fail
              go_loopw [3, 4] (fun i _ wr => i = .int .i64 0 ∧ Below (w.heap.size + 1) w1 wr) (fun _ _ _ => 0)
              case atStart => exact ⟨rfl, (Below.refl w1.heap.size w1).mono (by omega)⟩
              case round =>
                obtain ⟨rfl, hbr⟩ := hrel
                have e4 := (hbr.cell (p := ⟨w.heap.size, 4, none⟩) (by show w.heap.size < _; omega)).trans d4
                have HBR := Lib.hid (HB1.out.trans (hbr.mono (by omega)))
                clear hbr
                go_wp2_with fail
                go_ret
                exact ⟨⟨true, rfl, ⟨fun _ => HI.out.2 ⟨HK.out, HNO.out, HNUM.out, HP.out, HEM.out⟩, fun _ => rfl⟩⟩, HBR.out⟩
            · have t1 : (z != (S.size : Int)) = true := by rw [bne_iff_ne]; exact hz
              have HZ := Lib.hid hz; clear hz
              go_wp2_with fail
              go_ret
              exact ⟨⟨false, rfl, ⟨fun h => (by cases h), fun h => absurd (HB4.out.2 (HI.out.1 h).2.2.2.1) HZ.out⟩⟩, HB1.out⟩
          · have ka2 : (k == 2) = true := by rw [beq_iff_eq]; exact e
            have kb2 : (k != 2) = false := by rw [bne_eq_false_iff_eq]; exact e
            have ka3 : (k == 3) = false := by rw [beq_eq_false_iff_ne]; omega
            have kb3 : (k != 3) = true := by rw [bne_iff_ne]; omega
            have ka4 : (k == 4) = false := by rw [beq_eq_false_iff_ne]; omega
            have kb4 : (k != 4) = true := by rw [bne_iff_ne]; omega
            have ka5 : (k == 5) = false := by rw [beq_eq_false_iff_ne]; omega
            have kb5 : (k != 5) = true := by rw [bne_iff_ne]; omega
            have ka6 : (k == 6) = false := by rw [beq_eq_false_iff_ne]; omega
            have kb6 : (k != 6) = true := by rw [bne_iff_ne]; omega
            have kc1 : decide (k < 1) = false := decide_eq_false (by omega)
            have kc2 : decide (6 < k) = false := decide_eq_false (by omega)
            have hS0 : S.toList = [] := Classical.byContradiction fun x => hno (.inr (.inl ⟨x, by omega⟩))
            have hS1 : (S.toList != []) = false := by rw [hS0]; rfl
            have ha0 : a = 0 := Classical.byContradiction fun x => hno (.inr (.inr (.inl ⟨x, by omega⟩)))
            have hm0 : lm = 0 := Classical.byContradiction fun x => hno (.inr (.inr (.inr ⟨x, by omega⟩)))
            have HEM := Lib.hid (HNIL.out hm0)
            have HNO := Lib.hid hno
            have u5 : (n != 0) = true := by rw [bne_iff_ne]; exact q5
            have u6 : (n != 1) = true := by rw [bne_iff_ne]; exact q6
            have hnb : ¬ ((k = 2 → n = 0 ∨ n = 1) ∧ (k = 3 → -9007199254740991 ≤ n ∧ n ≤ 9007199254740991)) := fun h => by have := h.1 e; omega
            have HNB := Lib.hid hnb; clear hnb
            clear q5 q6 e
            subst ha0
            subst hm0
            have HK := Lib.hid hk
            clear hno hk
            go_enter Tryd.func25, Tryd.ntmps25
            go_wp2_with fail
            rw [← HW0.out]
            refine wp_region_held_drew (S := (fun w' => w'.cell? ⟨w.heap.size, 0, none⟩ = some (.int .i64 k) ∧ w'.cell? ⟨w.heap.size, 1, none⟩ = some (.int .i64 n) ∧ w'.cell? ⟨w.heap.size, 2, none⟩ = some (.string S))) (by kernel_rfl) (by go_keep) (fun hHeld => ?_)
            refine wpAnyH_take (i := 0) (oi := { dst := some 58, op := Op.fieldAddr 25 (Operand.tmp 1) 0, type := 0, pos := "ref.go:19", after := #[], guard := none }) (v := ?_) rfl (by kernel_rfl) (by kernel_rfl) (by kernel_rfl) (fun _ _ _ h => h) (Or.inl ⟨by rfl, ?_⟩) hHeld ?_
            rotate_left
            · intro w hSw; (try dsimp only at hSw); go_simp; with_reducible rfl
            try simp only [Act.put, List.setIfInBounds_toArray, List.set_cons_zero, List.set_cons_succ, ka2, ka3, u5, u6]
            refine wpAnyH_take (i := 1) (oi := { dst := some 59, op := Op.load 3 (Operand.tmp 58), type := 3, pos := "ref.go:19", after := #[{ on := 0, ground := Ground.data }], guard := none }) (v := ?_) rfl (by kernel_rfl) (by kernel_rfl) (by kernel_rfl) (fun _ _ _ h => h) (Or.inl ⟨by rfl, ?_⟩) hHeld ?_
            rotate_left
            · intro w hSw; (try dsimp only at hSw); go_simp; with_reducible rfl
            try simp only [Act.put, List.setIfInBounds_toArray, List.set_cons_zero, List.set_cons_succ, ka2, ka3, u5, u6]
            refine wpAnyH_take (i := 2) (oi := { dst := some 60, op := Op.binOp BinOp.eql 3 (Operand.tmp 59) (Operand.const (Value.int IntKind.i64 2)) 3, type := 4, pos := "ref.go:19", after := #[{ on := 1, ground := Ground.data }], guard := none }) (v := ?_) rfl (by kernel_rfl) (by kernel_rfl) (by kernel_rfl) (fun _ _ _ h => h) (Or.inl ⟨by rfl, ?_⟩) hHeld ?_
            rotate_left
            · intro w hSw; (try dsimp only at hSw); go_simp; with_reducible rfl
            try simp only [Act.put, List.setIfInBounds_toArray, List.set_cons_zero, List.set_cons_succ, ka2, ka3, u5, u6]
            refine wpAnyH_take (i := 3) (oi := { dst := some 61, op := Op.move (Operand.tmp 60), type := 4, pos := "ref.go:19", after := #[{ on := 2, ground := Ground.data }], guard := none }) (v := ?_) rfl (by kernel_rfl) (by kernel_rfl) (by kernel_rfl) (fun _ _ _ h => h) (Or.inl ⟨by rfl, ?_⟩) hHeld ?_
            rotate_left
            · intro w hSw; (try dsimp only at hSw); go_simp; with_reducible rfl
            try simp only [Act.put, List.setIfInBounds_toArray, List.set_cons_zero, List.set_cons_succ, ka2, ka3, u5, u6]
            refine wpAnyH_take (i := 4) (oi := { dst := some 62, op := Op.fieldAddr 25 (Operand.tmp 1) 1, type := 0, pos := "ref.go:19", after := #[{ on := 3, ground := Ground.guard }], guard := some (3, true) }) (v := ?_) rfl (by kernel_rfl) (by kernel_rfl) (by kernel_rfl) (fun _ _ _ h => h) (Or.inl ⟨by rfl, ?_⟩) hHeld ?_
            rotate_left
            · intro w hSw; (try dsimp only at hSw); go_simp; with_reducible rfl
            try simp only [Act.put, List.setIfInBounds_toArray, List.set_cons_zero, List.set_cons_succ, ka2, ka3, u5, u6]
            refine wpAnyH_take (i := 5) (oi := { dst := some 63, op := Op.load 2 (Operand.tmp 62), type := 2, pos := "ref.go:19", after := #[{ on := 4, ground := Ground.data }, { on := 3, ground := Ground.guard }], guard := some (3, true) }) (v := ?_) rfl (by kernel_rfl) (by kernel_rfl) (by kernel_rfl) (fun _ _ _ h => h) (Or.inl ⟨by rfl, ?_⟩) hHeld ?_
            rotate_left
            · intro w hSw; (try dsimp only at hSw); go_simp; with_reducible rfl
            try simp only [Act.put, List.setIfInBounds_toArray, List.set_cons_zero, List.set_cons_succ, ka2, ka3, u5, u6]
            refine wpAnyH_take (i := 6) (oi := { dst := some 64, op := Op.binOp BinOp.neq 2 (Operand.tmp 63) (Operand.const (Value.int IntKind.i64 0)) 2, type := 4, pos := "ref.go:19", after := #[{ on := 5, ground := Ground.data }, { on := 3, ground := Ground.guard }], guard := some (3, true) }) (v := ?_) rfl (by kernel_rfl) (by kernel_rfl) (by kernel_rfl) (fun _ _ _ h => h) (Or.inl ⟨by rfl, ?_⟩) hHeld ?_
            rotate_left
            · intro w hSw; (try dsimp only at hSw); go_simp; with_reducible rfl
            try simp only [Act.put, List.setIfInBounds_toArray, List.set_cons_zero, List.set_cons_succ, ka2, ka3, u5, u6]
            refine wpAnyH_take (i := 7) (oi := { dst := some 65, op := Op.pick (Operand.tmp 61) (Operand.tmp 64) (Operand.const (Value.bool false)), type := 4, pos := "ref.go:19", after := #[{ on := 3, ground := Ground.data }, { on := 6, ground := Ground.data }], guard := none }) (v := ?_) rfl (by kernel_rfl) (by kernel_rfl) (by kernel_rfl) (fun _ _ _ h => h) (Or.inl ⟨by rfl, ?_⟩) hHeld ?_
            rotate_left
            · intro w hSw; (try dsimp only at hSw); go_simp; with_reducible rfl
            try simp only [Act.put, List.setIfInBounds_toArray, List.set_cons_zero, List.set_cons_succ, ka2, ka3, u5, u6]
            refine wpAnyH_take (i := 8) (oi := { dst := some 66, op := Op.move (Operand.tmp 65), type := 4, pos := "ref.go:19", after := #[{ on := 7, ground := Ground.data }, { on := 3, ground := Ground.chain }], guard := none }) (v := ?_) rfl (by kernel_rfl) (by kernel_rfl) (by kernel_rfl) (fun _ _ _ h => h) (Or.inl ⟨by rfl, ?_⟩) hHeld ?_
            rotate_left
            · intro w hSw; (try dsimp only at hSw); go_simp; with_reducible rfl
            try simp only [Act.put, List.setIfInBounds_toArray, List.set_cons_zero, List.set_cons_succ, ka2, ka3, u5, u6]
            refine wpAnyH_take (i := 9) (oi := { dst := some 67, op := Op.fieldAddr 25 (Operand.tmp 1) 1, type := 0, pos := "ref.go:19", after := #[{ on := 8, ground := Ground.guard }], guard := some (8, true) }) (v := ?_) rfl (by kernel_rfl) (by kernel_rfl) (by kernel_rfl) (fun _ _ _ h => h) (Or.inl ⟨by rfl, ?_⟩) hHeld ?_
            rotate_left
            · intro w hSw; (try dsimp only at hSw); go_simp; with_reducible rfl
            try simp only [Act.put, List.setIfInBounds_toArray, List.set_cons_zero, List.set_cons_succ, ka2, ka3, u5, u6]
            refine wpAnyH_take (i := 10) (oi := { dst := some 68, op := Op.load 2 (Operand.tmp 67), type := 2, pos := "ref.go:19", after := #[{ on := 9, ground := Ground.data }, { on := 8, ground := Ground.guard }], guard := some (8, true) }) (v := ?_) rfl (by kernel_rfl) (by kernel_rfl) (by kernel_rfl) (fun _ _ _ h => h) (Or.inl ⟨by rfl, ?_⟩) hHeld ?_
            rotate_left
            · intro w hSw; (try dsimp only at hSw); go_simp; with_reducible rfl
            try simp only [Act.put, List.setIfInBounds_toArray, List.set_cons_zero, List.set_cons_succ, ka2, ka3, u5, u6]
            refine wpAnyH_take (i := 11) (oi := { dst := some 69, op := Op.binOp BinOp.neq 2 (Operand.tmp 68) (Operand.const (Value.int IntKind.i64 1)) 2, type := 4, pos := "ref.go:19", after := #[{ on := 10, ground := Ground.data }, { on := 8, ground := Ground.guard }], guard := some (8, true) }) (v := ?_) rfl (by kernel_rfl) (by kernel_rfl) (by kernel_rfl) (fun _ _ _ h => h) (Or.inl ⟨by rfl, ?_⟩) hHeld ?_
            rotate_left
            · intro w hSw; (try dsimp only at hSw); go_simp; with_reducible rfl
            try simp only [Act.put, List.setIfInBounds_toArray, List.set_cons_zero, List.set_cons_succ, ka2, ka3, u5, u6]
            refine wpAnyH_take (i := 12) (oi := { dst := some 70, op := Op.pick (Operand.tmp 66) (Operand.tmp 69) (Operand.const (Value.bool false)), type := 4, pos := "ref.go:19", after := #[{ on := 8, ground := Ground.data }, { on := 11, ground := Ground.data }], guard := none }) (v := ?_) rfl (by kernel_rfl) (by kernel_rfl) (by kernel_rfl) (fun _ _ _ h => h) (Or.inl ⟨by rfl, ?_⟩) hHeld ?_
            rotate_left
            · intro w hSw; (try dsimp only at hSw); go_simp; with_reducible rfl
            try simp only [Act.put, List.setIfInBounds_toArray, List.set_cons_zero, List.set_cons_succ, ka2, ka3, u5, u6]
            refine wpAnyH_take (i := 13) (oi := { dst := some 71, op := Op.move (Operand.tmp 70), type := 4, pos := "ref.go:19", after := #[{ on := 12, ground := Ground.data }, { on := 8, ground := Ground.chain }], guard := none }) (v := ?_) rfl (by kernel_rfl) (by kernel_rfl) (by kernel_rfl) (fun _ _ _ h => h) (Or.inl ⟨by rfl, ?_⟩) hHeld ?_
            rotate_left
            · intro w hSw; (try dsimp only at hSw); go_simp; with_reducible rfl
            try simp only [Act.put, List.setIfInBounds_toArray, List.set_cons_zero, List.set_cons_succ, ka2, ka3, u5, u6]
            refine wpAnyH_take (i := 14) (oi := { dst := some 72, op := Op.fieldAddr 25 (Operand.tmp 1) 0, type := 0, pos := "ref.go:19", after := #[{ on := 13, ground := Ground.guard }], guard := some (13, false) }) (v := undef) rfl (by kernel_rfl) (by kernel_rfl) (by kernel_rfl) (fun _ _ _ h => h) (Or.inr ⟨by rfl, rfl⟩) hHeld ?_
            try simp only [Act.put, List.setIfInBounds_toArray, List.set_cons_zero, List.set_cons_succ, ka2, ka3, u5, u6]
            refine wpAnyH_take (i := 15) (oi := { dst := some 73, op := Op.load 3 (Operand.tmp 72), type := 3, pos := "ref.go:19", after := #[{ on := 14, ground := Ground.data }, { on := 13, ground := Ground.guard }], guard := some (13, false) }) (v := undef) rfl (by kernel_rfl) (by kernel_rfl) (by kernel_rfl) (fun _ _ _ h => h) (Or.inr ⟨by rfl, rfl⟩) hHeld ?_
            try simp only [Act.put, List.setIfInBounds_toArray, List.set_cons_zero, List.set_cons_succ, ka2, ka3, u5, u6]
            refine wpAnyH_take (i := 16) (oi := { dst := some 74, op := Op.binOp BinOp.eql 3 (Operand.tmp 73) (Operand.const (Value.int IntKind.i64 3)) 3, type := 4, pos := "ref.go:19", after := #[{ on := 15, ground := Ground.data }, { on := 13, ground := Ground.guard }], guard := some (13, false) }) (v := undef) rfl (by kernel_rfl) (by kernel_rfl) (by kernel_rfl) (fun _ _ _ h => h) (Or.inr ⟨by rfl, rfl⟩) hHeld ?_
            try simp only [Act.put, List.setIfInBounds_toArray, List.set_cons_zero, List.set_cons_succ, ka2, ka3, u5, u6]
            refine wpAnyH_take (i := 17) (oi := { dst := some 75, op := Op.move (Operand.tmp 74), type := 4, pos := "ref.go:19", after := #[{ on := 16, ground := Ground.data }, { on := 13, ground := Ground.chain }, { on := 13, ground := Ground.guard }], guard := some (13, false) }) (v := undef) rfl (by kernel_rfl) (by kernel_rfl) (by kernel_rfl) (fun _ _ _ h => h) (Or.inr ⟨by rfl, rfl⟩) hHeld ?_
            try simp only [Act.put, List.setIfInBounds_toArray, List.set_cons_zero, List.set_cons_succ, ka2, ka3, u5, u6]
            refine wpAnyH_take (i := 18) (oi := { dst := some 76, op := Op.fieldAddr 25 (Operand.tmp 1) 1, type := 0, pos := "ref.go:19", after := #[{ on := 17, ground := Ground.guard }], guard := some (17, true) }) (v := undef) rfl (by kernel_rfl) (by kernel_rfl) (by kernel_rfl) (fun _ _ _ h => h) (Or.inr ⟨by rfl, rfl⟩) hHeld ?_
            try simp only [Act.put, List.setIfInBounds_toArray, List.set_cons_zero, List.set_cons_succ, ka2, ka3, u5, u6]
            refine wpAnyH_take (i := 19) (oi := { dst := some 77, op := Op.load 2 (Operand.tmp 76), type := 2, pos := "ref.go:19", after := #[{ on := 18, ground := Ground.data }, { on := 17, ground := Ground.guard }], guard := some (17, true) }) (v := undef) rfl (by kernel_rfl) (by kernel_rfl) (by kernel_rfl) (fun _ _ _ h => h) (Or.inr ⟨by rfl, rfl⟩) hHeld ?_
            try simp only [Act.put, List.setIfInBounds_toArray, List.set_cons_zero, List.set_cons_succ, ka2, ka3, u5, u6]
            refine wpAnyH_take (i := 20) (oi := { dst := some 78, op := Op.binOp BinOp.lss 2 (Operand.tmp 77) (Operand.const (Value.int IntKind.i64 (-9007199254740991))) 2, type := 4, pos := "ref.go:19", after := #[{ on := 19, ground := Ground.data }, { on := 17, ground := Ground.guard }], guard := some (17, true) }) (v := undef) rfl (by kernel_rfl) (by kernel_rfl) (by kernel_rfl) (fun _ _ _ h => h) (Or.inr ⟨by rfl, rfl⟩) hHeld ?_
            try simp only [Act.put, List.setIfInBounds_toArray, List.set_cons_zero, List.set_cons_succ, ka2, ka3, u5, u6]
            refine wpAnyH_take (i := 21) (oi := { dst := some 79, op := Op.move (Operand.tmp 78), type := 4, pos := "ref.go:19", after := #[{ on := 20, ground := Ground.data }, { on := 17, ground := Ground.chain }, { on := 17, ground := Ground.guard }], guard := some (17, true) }) (v := undef) rfl (by kernel_rfl) (by kernel_rfl) (by kernel_rfl) (fun _ _ _ h => h) (Or.inr ⟨by rfl, rfl⟩) hHeld ?_
            try simp only [Act.put, List.setIfInBounds_toArray, List.set_cons_zero, List.set_cons_succ, ka2, ka3, u5, u6]
            refine wpAnyH_take (i := 22) (oi := { dst := some 80, op := Op.fieldAddr 25 (Operand.tmp 1) 1, type := 0, pos := "ref.go:19", after := #[{ on := 21, ground := Ground.guard }], guard := some (21, false) }) (v := undef) rfl (by kernel_rfl) (by kernel_rfl) (by kernel_rfl) (fun _ _ _ h => h) (Or.inr ⟨by rfl, rfl⟩) hHeld ?_
            try simp only [Act.put, List.setIfInBounds_toArray, List.set_cons_zero, List.set_cons_succ, ka2, ka3, u5, u6]
            refine wpAnyH_take (i := 23) (oi := { dst := some 81, op := Op.load 2 (Operand.tmp 80), type := 2, pos := "ref.go:19", after := #[{ on := 22, ground := Ground.data }, { on := 21, ground := Ground.guard }], guard := some (21, false) }) (v := undef) rfl (by kernel_rfl) (by kernel_rfl) (by kernel_rfl) (fun _ _ _ h => h) (Or.inr ⟨by rfl, rfl⟩) hHeld ?_
            try simp only [Act.put, List.setIfInBounds_toArray, List.set_cons_zero, List.set_cons_succ, ka2, ka3, u5, u6]
            refine wpAnyH_take (i := 24) (oi := { dst := some 82, op := Op.binOp BinOp.gtr 2 (Operand.tmp 81) (Operand.const (Value.int IntKind.i64 9007199254740991)) 2, type := 4, pos := "ref.go:19", after := #[{ on := 23, ground := Ground.data }, { on := 21, ground := Ground.guard }], guard := some (21, false) }) (v := undef) rfl (by kernel_rfl) (by kernel_rfl) (by kernel_rfl) (fun _ _ _ h => h) (Or.inr ⟨by rfl, rfl⟩) hHeld ?_
            try simp only [Act.put, List.setIfInBounds_toArray, List.set_cons_zero, List.set_cons_succ, ka2, ka3, u5, u6]
            refine wpAnyH_take (i := 25) (oi := { dst := some 83, op := Op.pick (Operand.tmp 79) (Operand.const (Value.bool true)) (Operand.tmp 82), type := 4, pos := "ref.go:19", after := #[{ on := 21, ground := Ground.data }, { on := 24, ground := Ground.data }, { on := 17, ground := Ground.guard }], guard := some (17, true) }) (v := undef) rfl (by kernel_rfl) (by kernel_rfl) (by kernel_rfl) (fun _ _ _ h => h) (Or.inr ⟨by rfl, rfl⟩) hHeld ?_
            try simp only [Act.put, List.setIfInBounds_toArray, List.set_cons_zero, List.set_cons_succ, ka2, ka3, u5, u6]
            refine wpAnyH_take (i := 26) (oi := { dst := some 84, op := Op.pick (Operand.tmp 75) (Operand.tmp 83) (Operand.const (Value.bool false)), type := 4, pos := "ref.go:19", after := #[{ on := 17, ground := Ground.data }, { on := 25, ground := Ground.data }, { on := 13, ground := Ground.guard }], guard := some (13, false) }) (v := undef) rfl (by kernel_rfl) (by kernel_rfl) (by kernel_rfl) (fun _ _ _ h => h) (Or.inr ⟨by rfl, rfl⟩) hHeld ?_
            try simp only [Act.put, List.setIfInBounds_toArray, List.set_cons_zero, List.set_cons_succ, ka2, ka3, u5, u6]
            refine wpAnyH_take (i := 27) (oi := { dst := some 85, op := Op.pick (Operand.tmp 71) (Operand.const (Value.bool true)) (Operand.tmp 84), type := 4, pos := "ref.go:19", after := #[{ on := 13, ground := Ground.data }, { on := 26, ground := Ground.data }], guard := none }) (v := ?_) rfl (by kernel_rfl) (by kernel_rfl) (by kernel_rfl) (fun _ _ _ h => h) (Or.inl ⟨by rfl, ?_⟩) hHeld ?_
            rotate_left
            · intro w hSw; (try dsimp only at hSw); go_simp; with_reducible rfl
            try simp only [Act.put, List.setIfInBounds_toArray, List.set_cons_zero, List.set_cons_succ, ka2, ka3, u5, u6]
            refine wpAnyH_take (i := 28) (oi := { dst := some 86, op := Op.move (Operand.tmp 85), type := 4, pos := "ref.go:19", after := #[{ on := 27, ground := Ground.data }, { on := 21, ground := Ground.chain }], guard := none }) (v := ?_) rfl (by kernel_rfl) (by kernel_rfl) (by kernel_rfl) (fun _ _ _ h => h) (Or.inl ⟨by rfl, ?_⟩) hHeld ?_
            rotate_left
            · intro w hSw; (try dsimp only at hSw); go_simp; with_reducible rfl
            try simp only [Act.put, List.setIfInBounds_toArray, List.set_cons_zero, List.set_cons_succ, ka2, ka3, u5, u6]
            refine wpAnyH_take (i := 29) (oi := { dst := some 87, op := Op.fieldAddr 25 (Operand.tmp 1) 2, type := 0, pos := "ref.go:19", after := #[{ on := 28, ground := Ground.guard }], guard := some (28, false) }) (v := undef) rfl (by kernel_rfl) (by kernel_rfl) (by kernel_rfl) (fun _ _ _ h => h) (Or.inr ⟨by rfl, rfl⟩) hHeld ?_
            try simp only [Act.put, List.setIfInBounds_toArray, List.set_cons_zero, List.set_cons_succ, ka2, ka3, u5, u6]
            refine wpAnyH_take (i := 30) (oi := { dst := some 88, op := Op.load 9 (Operand.tmp 87), type := 9, pos := "ref.go:19", after := #[{ on := 29, ground := Ground.data }, { on := 28, ground := Ground.guard }], guard := some (28, false) }) (v := undef) rfl (by kernel_rfl) (by kernel_rfl) (by kernel_rfl) (fun _ _ _ h => h) (Or.inr ⟨by rfl, rfl⟩) hHeld ?_
            try simp only [Act.put, List.setIfInBounds_toArray, List.set_cons_zero, List.set_cons_succ, ka2, ka3, u5, u6]
            refine wpAnyH_take (i := 32) (oi := { dst := some 90, op := Op.fieldAddr 25 (Operand.tmp 1) 2, type := 0, pos := "ref.go:19", after := #[{ on := 28, ground := Ground.guard }], guard := some (28, false) }) (v := undef) rfl (by kernel_rfl) (by kernel_rfl) (by kernel_rfl) (fun _ _ _ h => h) (Or.inr ⟨by rfl, rfl⟩) hHeld ?_
            try simp only [Act.put, List.setIfInBounds_toArray, List.set_cons_zero, List.set_cons_succ, ka2, ka3, u5, u6]
            refine wpAnyH_take (i := 33) (oi := { dst := some 91, op := Op.load 9 (Operand.tmp 90), type := 9, pos := "ref.go:19", after := #[{ on := 32, ground := Ground.data }, { on := 28, ground := Ground.guard }], guard := some (28, false) }) (v := undef) rfl (by kernel_rfl) (by kernel_rfl) (by kernel_rfl) (fun _ _ _ h => h) (Or.inr ⟨by rfl, rfl⟩) hHeld ?_
            try simp only [Act.put, List.setIfInBounds_toArray, List.set_cons_zero, List.set_cons_succ, ka2, ka3, u5, u6]
            refine wpAnyH_take (i := 34) (oi := { dst := some 92, op := Op.call { callee := Callee.builtin Builtin.len, args := #[Operand.tmp 91], argTypes := #[9] }, type := 3, pos := "ref.go:19", after := #[{ on := 33, ground := Ground.data }, { on := 28, ground := Ground.guard }], guard := some (28, false) }) (v := undef) rfl (by kernel_rfl) (by kernel_rfl) (by kernel_rfl) (fun _ _ _ h => h) (Or.inr ⟨by rfl, rfl⟩) hHeld ?_
            try simp only [Act.put, List.setIfInBounds_toArray, List.set_cons_zero, List.set_cons_succ, ka2, ka3, u5, u6]
            refine wpAnyH_take (i := 31) (oi := { dst := some 89, op := Op.call { callee := Callee.value (Operand.func 35), args := #[Operand.tmp 88], argTypes := #[9] }, type := 3, pos := "ref.go:19", after := #[{ on := 30, ground := Ground.data }, { on := 28, ground := Ground.chain }, { on := 28, ground := Ground.guard }], guard := some (28, false) }) (v := undef) rfl (by kernel_rfl) (by kernel_rfl) (by kernel_rfl) (fun _ _ _ h => h) (Or.inr ⟨by rfl, rfl⟩) hHeld ?_
            try simp only [Act.put, List.setIfInBounds_toArray, List.set_cons_zero, List.set_cons_succ, ka2, ka3, u5, u6]
            refine wpAnyH_take (i := 35) (oi := { dst := some 93, op := Op.binOp BinOp.neq 3 (Operand.tmp 89) (Operand.tmp 92) 3, type := 4, pos := "ref.go:19", after := #[{ on := 31, ground := Ground.data }, { on := 34, ground := Ground.data }, { on := 28, ground := Ground.guard }], guard := some (28, false) }) (v := undef) rfl (by kernel_rfl) (by kernel_rfl) (by kernel_rfl) (fun _ _ _ h => h) (Or.inr ⟨by rfl, rfl⟩) hHeld ?_
            try simp only [Act.put, List.setIfInBounds_toArray, List.set_cons_zero, List.set_cons_succ, ka2, ka3, u5, u6]
            refine wpAnyH_take (i := 36) (oi := { dst := some 94, op := Op.pick (Operand.tmp 86) (Operand.const (Value.bool true)) (Operand.tmp 93), type := 4, pos := "ref.go:19", after := #[{ on := 28, ground := Ground.data }, { on := 35, ground := Ground.data }], guard := none }) (v := ?_) rfl (by kernel_rfl) (by kernel_rfl) (by kernel_rfl) (fun _ _ _ h => h) (Or.inl ⟨by rfl, ?_⟩) hHeld ?_
            rotate_left
            · intro w hSw; (try dsimp only at hSw); go_simp; with_reducible rfl
            try simp only [Act.put, List.setIfInBounds_toArray, List.set_cons_zero, List.set_cons_succ, ka2, ka3, u5, u6]
            refine wpAnyH_done (by kernel_rfl) ?_ _
            go_wp2_with fail
            go_ret
            exact ⟨⟨false, rfl, ⟨fun h => (by cases h), fun h => absurd (HI.out.1 h).2.2.1 HNB.out⟩⟩, HB0.out.drew⟩
      · by_cases q5 : n < -9007199254740991
        · have ka2 : (k == 2) = false := by rw [beq_eq_false_iff_ne]; omega
          have kb2 : (k != 2) = true := by rw [bne_iff_ne]; omega
          have ka3 : (k == 3) = true := by rw [beq_iff_eq]; exact e
          have kb3 : (k != 3) = false := by rw [bne_eq_false_iff_eq]; exact e
          have ka4 : (k == 4) = false := by rw [beq_eq_false_iff_ne]; omega
          have kb4 : (k != 4) = true := by rw [bne_iff_ne]; omega
          have ka5 : (k == 5) = false := by rw [beq_eq_false_iff_ne]; omega
          have kb5 : (k != 5) = true := by rw [bne_iff_ne]; omega
          have ka6 : (k == 6) = false := by rw [beq_eq_false_iff_ne]; omega
          have kb6 : (k != 6) = true := by rw [bne_iff_ne]; omega
          have kc1 : decide (k < 1) = false := decide_eq_false (by omega)
          have kc2 : decide (6 < k) = false := decide_eq_false (by omega)
          have hS0 : S.toList = [] := Classical.byContradiction fun x => hno (.inr (.inl ⟨x, by omega⟩))
          have hS1 : (S.toList != []) = false := by rw [hS0]; rfl
          have ha0 : a = 0 := Classical.byContradiction fun x => hno (.inr (.inr (.inl ⟨x, by omega⟩)))
          have hm0 : lm = 0 := Classical.byContradiction fun x => hno (.inr (.inr (.inr ⟨x, by omega⟩)))
          have HEM := Lib.hid (HNIL.out hm0)
          have HNO := Lib.hid hno
          have u5 : decide (n < -9007199254740991) = true := decide_eq_true q5
          have hnb : ¬ ((k = 2 → n = 0 ∨ n = 1) ∧ (k = 3 → -9007199254740991 ≤ n ∧ n ≤ 9007199254740991)) := fun h => by have := h.2 e; omega
          have HNB := Lib.hid hnb; clear hnb
          clear q5 e
          subst ha0
          subst hm0
          have HK := Lib.hid hk
          clear hno hk
          go_enter Tryd.func25, Tryd.ntmps25
          go_wp2_with fail
          rw [← HW0.out]
          refine wp_region_held_drew (S := (fun w' => w'.cell? ⟨w.heap.size, 0, none⟩ = some (.int .i64 k) ∧ w'.cell? ⟨w.heap.size, 1, none⟩ = some (.int .i64 n) ∧ w'.cell? ⟨w.heap.size, 2, none⟩ = some (.string S))) (by kernel_rfl) (by go_keep) (fun hHeld => ?_)
          refine wpAnyH_take (i := 0) (oi := { dst := some 58, op := Op.fieldAddr 25 (Operand.tmp 1) 0, type := 0, pos := "ref.go:19", after := #[], guard := none }) (v := ?_) rfl (by kernel_rfl) (by kernel_rfl) (by kernel_rfl) (fun _ _ _ h => h) (Or.inl ⟨by rfl, ?_⟩) hHeld ?_
          rotate_left
          · intro w hSw; (try dsimp only at hSw); go_simp; with_reducible rfl
          try simp only [Act.put, List.setIfInBounds_toArray, List.set_cons_zero, List.set_cons_succ, ka2, ka3, u5]
          refine wpAnyH_take (i := 1) (oi := { dst := some 59, op := Op.load 3 (Operand.tmp 58), type := 3, pos := "ref.go:19", after := #[{ on := 0, ground := Ground.data }], guard := none }) (v := ?_) rfl (by kernel_rfl) (by kernel_rfl) (by kernel_rfl) (fun _ _ _ h => h) (Or.inl ⟨by rfl, ?_⟩) hHeld ?_
          rotate_left
          · intro w hSw; (try dsimp only at hSw); go_simp; with_reducible rfl
          try simp only [Act.put, List.setIfInBounds_toArray, List.set_cons_zero, List.set_cons_succ, ka2, ka3, u5]
          refine wpAnyH_take (i := 2) (oi := { dst := some 60, op := Op.binOp BinOp.eql 3 (Operand.tmp 59) (Operand.const (Value.int IntKind.i64 2)) 3, type := 4, pos := "ref.go:19", after := #[{ on := 1, ground := Ground.data }], guard := none }) (v := ?_) rfl (by kernel_rfl) (by kernel_rfl) (by kernel_rfl) (fun _ _ _ h => h) (Or.inl ⟨by rfl, ?_⟩) hHeld ?_
          rotate_left
          · intro w hSw; (try dsimp only at hSw); go_simp; with_reducible rfl
          try simp only [Act.put, List.setIfInBounds_toArray, List.set_cons_zero, List.set_cons_succ, ka2, ka3, u5]
          refine wpAnyH_take (i := 3) (oi := { dst := some 61, op := Op.move (Operand.tmp 60), type := 4, pos := "ref.go:19", after := #[{ on := 2, ground := Ground.data }], guard := none }) (v := ?_) rfl (by kernel_rfl) (by kernel_rfl) (by kernel_rfl) (fun _ _ _ h => h) (Or.inl ⟨by rfl, ?_⟩) hHeld ?_
          rotate_left
          · intro w hSw; (try dsimp only at hSw); go_simp; with_reducible rfl
          try simp only [Act.put, List.setIfInBounds_toArray, List.set_cons_zero, List.set_cons_succ, ka2, ka3, u5]
          refine wpAnyH_take (i := 4) (oi := { dst := some 62, op := Op.fieldAddr 25 (Operand.tmp 1) 1, type := 0, pos := "ref.go:19", after := #[{ on := 3, ground := Ground.guard }], guard := some (3, true) }) (v := undef) rfl (by kernel_rfl) (by kernel_rfl) (by kernel_rfl) (fun _ _ _ h => h) (Or.inr ⟨by rfl, rfl⟩) hHeld ?_
          try simp only [Act.put, List.setIfInBounds_toArray, List.set_cons_zero, List.set_cons_succ, ka2, ka3, u5]
          refine wpAnyH_take (i := 5) (oi := { dst := some 63, op := Op.load 2 (Operand.tmp 62), type := 2, pos := "ref.go:19", after := #[{ on := 4, ground := Ground.data }, { on := 3, ground := Ground.guard }], guard := some (3, true) }) (v := undef) rfl (by kernel_rfl) (by kernel_rfl) (by kernel_rfl) (fun _ _ _ h => h) (Or.inr ⟨by rfl, rfl⟩) hHeld ?_
          try simp only [Act.put, List.setIfInBounds_toArray, List.set_cons_zero, List.set_cons_succ, ka2, ka3, u5]
          refine wpAnyH_take (i := 6) (oi := { dst := some 64, op := Op.binOp BinOp.neq 2 (Operand.tmp 63) (Operand.const (Value.int IntKind.i64 0)) 2, type := 4, pos := "ref.go:19", after := #[{ on := 5, ground := Ground.data }, { on := 3, ground := Ground.guard }], guard := some (3, true) }) (v := undef) rfl (by kernel_rfl) (by kernel_rfl) (by kernel_rfl) (fun _ _ _ h => h) (Or.inr ⟨by rfl, rfl⟩) hHeld ?_
          try simp only [Act.put, List.setIfInBounds_toArray, List.set_cons_zero, List.set_cons_succ, ka2, ka3, u5]
          refine wpAnyH_take (i := 7) (oi := { dst := some 65, op := Op.pick (Operand.tmp 61) (Operand.tmp 64) (Operand.const (Value.bool false)), type := 4, pos := "ref.go:19", after := #[{ on := 3, ground := Ground.data }, { on := 6, ground := Ground.data }], guard := none }) (v := ?_) rfl (by kernel_rfl) (by kernel_rfl) (by kernel_rfl) (fun _ _ _ h => h) (Or.inl ⟨by rfl, ?_⟩) hHeld ?_
          rotate_left
          · intro w hSw; (try dsimp only at hSw); go_simp; with_reducible rfl
          try simp only [Act.put, List.setIfInBounds_toArray, List.set_cons_zero, List.set_cons_succ, ka2, ka3, u5]
          refine wpAnyH_take (i := 8) (oi := { dst := some 66, op := Op.move (Operand.tmp 65), type := 4, pos := "ref.go:19", after := #[{ on := 7, ground := Ground.data }, { on := 3, ground := Ground.chain }], guard := none }) (v := ?_) rfl (by kernel_rfl) (by kernel_rfl) (by kernel_rfl) (fun _ _ _ h => h) (Or.inl ⟨by rfl, ?_⟩) hHeld ?_
          rotate_left
          · intro w hSw; (try dsimp only at hSw); go_simp; with_reducible rfl
          try simp only [Act.put, List.setIfInBounds_toArray, List.set_cons_zero, List.set_cons_succ, ka2, ka3, u5]
          refine wpAnyH_take (i := 9) (oi := { dst := some 67, op := Op.fieldAddr 25 (Operand.tmp 1) 1, type := 0, pos := "ref.go:19", after := #[{ on := 8, ground := Ground.guard }], guard := some (8, true) }) (v := undef) rfl (by kernel_rfl) (by kernel_rfl) (by kernel_rfl) (fun _ _ _ h => h) (Or.inr ⟨by rfl, rfl⟩) hHeld ?_
          try simp only [Act.put, List.setIfInBounds_toArray, List.set_cons_zero, List.set_cons_succ, ka2, ka3, u5]
          refine wpAnyH_take (i := 10) (oi := { dst := some 68, op := Op.load 2 (Operand.tmp 67), type := 2, pos := "ref.go:19", after := #[{ on := 9, ground := Ground.data }, { on := 8, ground := Ground.guard }], guard := some (8, true) }) (v := undef) rfl (by kernel_rfl) (by kernel_rfl) (by kernel_rfl) (fun _ _ _ h => h) (Or.inr ⟨by rfl, rfl⟩) hHeld ?_
          try simp only [Act.put, List.setIfInBounds_toArray, List.set_cons_zero, List.set_cons_succ, ka2, ka3, u5]
          refine wpAnyH_take (i := 11) (oi := { dst := some 69, op := Op.binOp BinOp.neq 2 (Operand.tmp 68) (Operand.const (Value.int IntKind.i64 1)) 2, type := 4, pos := "ref.go:19", after := #[{ on := 10, ground := Ground.data }, { on := 8, ground := Ground.guard }], guard := some (8, true) }) (v := undef) rfl (by kernel_rfl) (by kernel_rfl) (by kernel_rfl) (fun _ _ _ h => h) (Or.inr ⟨by rfl, rfl⟩) hHeld ?_
          try simp only [Act.put, List.setIfInBounds_toArray, List.set_cons_zero, List.set_cons_succ, ka2, ka3, u5]
          refine wpAnyH_take (i := 12) (oi := { dst := some 70, op := Op.pick (Operand.tmp 66) (Operand.tmp 69) (Operand.const (Value.bool false)), type := 4, pos := "ref.go:19", after := #[{ on := 8, ground := Ground.data }, { on := 11, ground := Ground.data }], guard := none }) (v := ?_) rfl (by kernel_rfl) (by kernel_rfl) (by kernel_rfl) (fun _ _ _ h => h) (Or.inl ⟨by rfl, ?_⟩) hHeld ?_
          rotate_left
          · intro w hSw; (try dsimp only at hSw); go_simp; with_reducible rfl
          try simp only [Act.put, List.setIfInBounds_toArray, List.set_cons_zero, List.set_cons_succ, ka2, ka3, u5]
          refine wpAnyH_take (i := 13) (oi := { dst := some 71, op := Op.move (Operand.tmp 70), type := 4, pos := "ref.go:19", after := #[{ on := 12, ground := Ground.data }, { on := 8, ground := Ground.chain }], guard := none }) (v := ?_) rfl (by kernel_rfl) (by kernel_rfl) (by kernel_rfl) (fun _ _ _ h => h) (Or.inl ⟨by rfl, ?_⟩) hHeld ?_
          rotate_left
          · intro w hSw; (try dsimp only at hSw); go_simp; with_reducible rfl
          try simp only [Act.put, List.setIfInBounds_toArray, List.set_cons_zero, List.set_cons_succ, ka2, ka3, u5]
          refine wpAnyH_take (i := 14) (oi := { dst := some 72, op := Op.fieldAddr 25 (Operand.tmp 1) 0, type := 0, pos := "ref.go:19", after := #[{ on := 13, ground := Ground.guard }], guard := some (13, false) }) (v := ?_) rfl (by kernel_rfl) (by kernel_rfl) (by kernel_rfl) (fun _ _ _ h => h) (Or.inl ⟨by rfl, ?_⟩) hHeld ?_
          rotate_left
          · intro w hSw; (try dsimp only at hSw); go_simp; with_reducible rfl
          try simp only [Act.put, List.setIfInBounds_toArray, List.set_cons_zero, List.set_cons_succ, ka2, ka3, u5]
          refine wpAnyH_take (i := 15) (oi := { dst := some 73, op := Op.load 3 (Operand.tmp 72), type := 3, pos := "ref.go:19", after := #[{ on := 14, ground := Ground.data }, { on := 13, ground := Ground.guard }], guard := some (13, false) }) (v := ?_) rfl (by kernel_rfl) (by kernel_rfl) (by kernel_rfl) (fun _ _ _ h => h) (Or.inl ⟨by rfl, ?_⟩) hHeld ?_
          rotate_left
          · intro w hSw; (try dsimp only at hSw); go_simp; with_reducible rfl
          try simp only [Act.put, List.setIfInBounds_toArray, List.set_cons_zero, List.set_cons_succ, ka2, ka3, u5]
          refine wpAnyH_take (i := 16) (oi := { dst := some 74, op := Op.binOp BinOp.eql 3 (Operand.tmp 73) (Operand.const (Value.int IntKind.i64 3)) 3, type := 4, pos := "ref.go:19", after := #[{ on := 15, ground := Ground.data }, { on := 13, ground := Ground.guard }], guard := some (13, false) }) (v := ?_) rfl (by kernel_rfl) (by kernel_rfl) (by kernel_rfl) (fun _ _ _ h => h) (Or.inl ⟨by rfl, ?_⟩) hHeld ?_
          rotate_left
          · intro w hSw; (try dsimp only at hSw); go_simp; with_reducible rfl
          try simp only [Act.put, List.setIfInBounds_toArray, List.set_cons_zero, List.set_cons_succ, ka2, ka3, u5]
          refine wpAnyH_take (i := 17) (oi := { dst := some 75, op := Op.move (Operand.tmp 74), type := 4, pos := "ref.go:19", after := #[{ on := 16, ground := Ground.data }, { on := 13, ground := Ground.chain }, { on := 13, ground := Ground.guard }], guard := some (13, false) }) (v := ?_) rfl (by kernel_rfl) (by kernel_rfl) (by kernel_rfl) (fun _ _ _ h => h) (Or.inl ⟨by rfl, ?_⟩) hHeld ?_
          rotate_left
          · intro w hSw; (try dsimp only at hSw); go_simp; with_reducible rfl
          try simp only [Act.put, List.setIfInBounds_toArray, List.set_cons_zero, List.set_cons_succ, ka2, ka3, u5]
          refine wpAnyH_take (i := 18) (oi := { dst := some 76, op := Op.fieldAddr 25 (Operand.tmp 1) 1, type := 0, pos := "ref.go:19", after := #[{ on := 17, ground := Ground.guard }], guard := some (17, true) }) (v := ?_) rfl (by kernel_rfl) (by kernel_rfl) (by kernel_rfl) (fun _ _ _ h => h) (Or.inl ⟨by rfl, ?_⟩) hHeld ?_
          rotate_left
          · intro w hSw; (try dsimp only at hSw); go_simp; with_reducible rfl
          try simp only [Act.put, List.setIfInBounds_toArray, List.set_cons_zero, List.set_cons_succ, ka2, ka3, u5]
          refine wpAnyH_take (i := 19) (oi := { dst := some 77, op := Op.load 2 (Operand.tmp 76), type := 2, pos := "ref.go:19", after := #[{ on := 18, ground := Ground.data }, { on := 17, ground := Ground.guard }], guard := some (17, true) }) (v := ?_) rfl (by kernel_rfl) (by kernel_rfl) (by kernel_rfl) (fun _ _ _ h => h) (Or.inl ⟨by rfl, ?_⟩) hHeld ?_
          rotate_left
          · intro w hSw; (try dsimp only at hSw); go_simp; with_reducible rfl
          try simp only [Act.put, List.setIfInBounds_toArray, List.set_cons_zero, List.set_cons_succ, ka2, ka3, u5]
          refine wpAnyH_take (i := 20) (oi := { dst := some 78, op := Op.binOp BinOp.lss 2 (Operand.tmp 77) (Operand.const (Value.int IntKind.i64 (-9007199254740991))) 2, type := 4, pos := "ref.go:19", after := #[{ on := 19, ground := Ground.data }, { on := 17, ground := Ground.guard }], guard := some (17, true) }) (v := ?_) rfl (by kernel_rfl) (by kernel_rfl) (by kernel_rfl) (fun _ _ _ h => h) (Or.inl ⟨by rfl, ?_⟩) hHeld ?_
          rotate_left
          · intro w hSw; (try dsimp only at hSw); go_simp; with_reducible rfl
          try simp only [Act.put, List.setIfInBounds_toArray, List.set_cons_zero, List.set_cons_succ, ka2, ka3, u5]
          refine wpAnyH_take (i := 21) (oi := { dst := some 79, op := Op.move (Operand.tmp 78), type := 4, pos := "ref.go:19", after := #[{ on := 20, ground := Ground.data }, { on := 17, ground := Ground.chain }, { on := 17, ground := Ground.guard }], guard := some (17, true) }) (v := ?_) rfl (by kernel_rfl) (by kernel_rfl) (by kernel_rfl) (fun _ _ _ h => h) (Or.inl ⟨by rfl, ?_⟩) hHeld ?_
          rotate_left
          · intro w hSw; (try dsimp only at hSw); go_simp; with_reducible rfl
          try simp only [Act.put, List.setIfInBounds_toArray, List.set_cons_zero, List.set_cons_succ, ka2, ka3, u5]
          refine wpAnyH_take (i := 22) (oi := { dst := some 80, op := Op.fieldAddr 25 (Operand.tmp 1) 1, type := 0, pos := "ref.go:19", after := #[{ on := 21, ground := Ground.guard }], guard := some (21, false) }) (v := undef) rfl (by kernel_rfl) (by kernel_rfl) (by kernel_rfl) (fun _ _ _ h => h) (Or.inr ⟨by rfl, rfl⟩) hHeld ?_
          try simp only [Act.put, List.setIfInBounds_toArray, List.set_cons_zero, List.set_cons_succ, ka2, ka3, u5]
          refine wpAnyH_take (i := 23) (oi := { dst := some 81, op := Op.load 2 (Operand.tmp 80), type := 2, pos := "ref.go:19", after := #[{ on := 22, ground := Ground.data }, { on := 21, ground := Ground.guard }], guard := some (21, false) }) (v := undef) rfl (by kernel_rfl) (by kernel_rfl) (by kernel_rfl) (fun _ _ _ h => h) (Or.inr ⟨by rfl, rfl⟩) hHeld ?_
          try simp only [Act.put, List.setIfInBounds_toArray, List.set_cons_zero, List.set_cons_succ, ka2, ka3, u5]
          refine wpAnyH_take (i := 24) (oi := { dst := some 82, op := Op.binOp BinOp.gtr 2 (Operand.tmp 81) (Operand.const (Value.int IntKind.i64 9007199254740991)) 2, type := 4, pos := "ref.go:19", after := #[{ on := 23, ground := Ground.data }, { on := 21, ground := Ground.guard }], guard := some (21, false) }) (v := undef) rfl (by kernel_rfl) (by kernel_rfl) (by kernel_rfl) (fun _ _ _ h => h) (Or.inr ⟨by rfl, rfl⟩) hHeld ?_
          try simp only [Act.put, List.setIfInBounds_toArray, List.set_cons_zero, List.set_cons_succ, ka2, ka3, u5]
          refine wpAnyH_take (i := 25) (oi := { dst := some 83, op := Op.pick (Operand.tmp 79) (Operand.const (Value.bool true)) (Operand.tmp 82), type := 4, pos := "ref.go:19", after := #[{ on := 21, ground := Ground.data }, { on := 24, ground := Ground.data }, { on := 17, ground := Ground.guard }], guard := some (17, true) }) (v := ?_) rfl (by kernel_rfl) (by kernel_rfl) (by kernel_rfl) (fun _ _ _ h => h) (Or.inl ⟨by rfl, ?_⟩) hHeld ?_
          rotate_left
          · intro w hSw; (try dsimp only at hSw); go_simp; with_reducible rfl
          try simp only [Act.put, List.setIfInBounds_toArray, List.set_cons_zero, List.set_cons_succ, ka2, ka3, u5]
          refine wpAnyH_take (i := 26) (oi := { dst := some 84, op := Op.pick (Operand.tmp 75) (Operand.tmp 83) (Operand.const (Value.bool false)), type := 4, pos := "ref.go:19", after := #[{ on := 17, ground := Ground.data }, { on := 25, ground := Ground.data }, { on := 13, ground := Ground.guard }], guard := some (13, false) }) (v := ?_) rfl (by kernel_rfl) (by kernel_rfl) (by kernel_rfl) (fun _ _ _ h => h) (Or.inl ⟨by rfl, ?_⟩) hHeld ?_
          rotate_left
          · intro w hSw; (try dsimp only at hSw); go_simp; with_reducible rfl
          try simp only [Act.put, List.setIfInBounds_toArray, List.set_cons_zero, List.set_cons_succ, ka2, ka3, u5]
          refine wpAnyH_take (i := 27) (oi := { dst := some 85, op := Op.pick (Operand.tmp 71) (Operand.const (Value.bool true)) (Operand.tmp 84), type := 4, pos := "ref.go:19", after := #[{ on := 13, ground := Ground.data }, { on := 26, ground := Ground.data }], guard := none }) (v := ?_) rfl (by kernel_rfl) (by kernel_rfl) (by kernel_rfl) (fun _ _ _ h => h) (Or.inl ⟨by rfl, ?_⟩) hHeld ?_
          rotate_left
          · intro w hSw; (try dsimp only at hSw); go_simp; with_reducible rfl
          try simp only [Act.put, List.setIfInBounds_toArray, List.set_cons_zero, List.set_cons_succ, ka2, ka3, u5]
          refine wpAnyH_take (i := 28) (oi := { dst := some 86, op := Op.move (Operand.tmp 85), type := 4, pos := "ref.go:19", after := #[{ on := 27, ground := Ground.data }, { on := 21, ground := Ground.chain }], guard := none }) (v := ?_) rfl (by kernel_rfl) (by kernel_rfl) (by kernel_rfl) (fun _ _ _ h => h) (Or.inl ⟨by rfl, ?_⟩) hHeld ?_
          rotate_left
          · intro w hSw; (try dsimp only at hSw); go_simp; with_reducible rfl
          try simp only [Act.put, List.setIfInBounds_toArray, List.set_cons_zero, List.set_cons_succ, ka2, ka3, u5]
          refine wpAnyH_take (i := 29) (oi := { dst := some 87, op := Op.fieldAddr 25 (Operand.tmp 1) 2, type := 0, pos := "ref.go:19", after := #[{ on := 28, ground := Ground.guard }], guard := some (28, false) }) (v := undef) rfl (by kernel_rfl) (by kernel_rfl) (by kernel_rfl) (fun _ _ _ h => h) (Or.inr ⟨by rfl, rfl⟩) hHeld ?_
          try simp only [Act.put, List.setIfInBounds_toArray, List.set_cons_zero, List.set_cons_succ, ka2, ka3, u5]
          refine wpAnyH_take (i := 30) (oi := { dst := some 88, op := Op.load 9 (Operand.tmp 87), type := 9, pos := "ref.go:19", after := #[{ on := 29, ground := Ground.data }, { on := 28, ground := Ground.guard }], guard := some (28, false) }) (v := undef) rfl (by kernel_rfl) (by kernel_rfl) (by kernel_rfl) (fun _ _ _ h => h) (Or.inr ⟨by rfl, rfl⟩) hHeld ?_
          try simp only [Act.put, List.setIfInBounds_toArray, List.set_cons_zero, List.set_cons_succ, ka2, ka3, u5]
          refine wpAnyH_take (i := 32) (oi := { dst := some 90, op := Op.fieldAddr 25 (Operand.tmp 1) 2, type := 0, pos := "ref.go:19", after := #[{ on := 28, ground := Ground.guard }], guard := some (28, false) }) (v := undef) rfl (by kernel_rfl) (by kernel_rfl) (by kernel_rfl) (fun _ _ _ h => h) (Or.inr ⟨by rfl, rfl⟩) hHeld ?_
          try simp only [Act.put, List.setIfInBounds_toArray, List.set_cons_zero, List.set_cons_succ, ka2, ka3, u5]
          refine wpAnyH_take (i := 33) (oi := { dst := some 91, op := Op.load 9 (Operand.tmp 90), type := 9, pos := "ref.go:19", after := #[{ on := 32, ground := Ground.data }, { on := 28, ground := Ground.guard }], guard := some (28, false) }) (v := undef) rfl (by kernel_rfl) (by kernel_rfl) (by kernel_rfl) (fun _ _ _ h => h) (Or.inr ⟨by rfl, rfl⟩) hHeld ?_
          try simp only [Act.put, List.setIfInBounds_toArray, List.set_cons_zero, List.set_cons_succ, ka2, ka3, u5]
          refine wpAnyH_take (i := 34) (oi := { dst := some 92, op := Op.call { callee := Callee.builtin Builtin.len, args := #[Operand.tmp 91], argTypes := #[9] }, type := 3, pos := "ref.go:19", after := #[{ on := 33, ground := Ground.data }, { on := 28, ground := Ground.guard }], guard := some (28, false) }) (v := undef) rfl (by kernel_rfl) (by kernel_rfl) (by kernel_rfl) (fun _ _ _ h => h) (Or.inr ⟨by rfl, rfl⟩) hHeld ?_
          try simp only [Act.put, List.setIfInBounds_toArray, List.set_cons_zero, List.set_cons_succ, ka2, ka3, u5]
          refine wpAnyH_take (i := 31) (oi := { dst := some 89, op := Op.call { callee := Callee.value (Operand.func 35), args := #[Operand.tmp 88], argTypes := #[9] }, type := 3, pos := "ref.go:19", after := #[{ on := 30, ground := Ground.data }, { on := 28, ground := Ground.chain }, { on := 28, ground := Ground.guard }], guard := some (28, false) }) (v := undef) rfl (by kernel_rfl) (by kernel_rfl) (by kernel_rfl) (fun _ _ _ h => h) (Or.inr ⟨by rfl, rfl⟩) hHeld ?_
          try simp only [Act.put, List.setIfInBounds_toArray, List.set_cons_zero, List.set_cons_succ, ka2, ka3, u5]
          refine wpAnyH_take (i := 35) (oi := { dst := some 93, op := Op.binOp BinOp.neq 3 (Operand.tmp 89) (Operand.tmp 92) 3, type := 4, pos := "ref.go:19", after := #[{ on := 31, ground := Ground.data }, { on := 34, ground := Ground.data }, { on := 28, ground := Ground.guard }], guard := some (28, false) }) (v := undef) rfl (by kernel_rfl) (by kernel_rfl) (by kernel_rfl) (fun _ _ _ h => h) (Or.inr ⟨by rfl, rfl⟩) hHeld ?_
          try simp only [Act.put, List.setIfInBounds_toArray, List.set_cons_zero, List.set_cons_succ, ka2, ka3, u5]
          refine wpAnyH_take (i := 36) (oi := { dst := some 94, op := Op.pick (Operand.tmp 86) (Operand.const (Value.bool true)) (Operand.tmp 93), type := 4, pos := "ref.go:19", after := #[{ on := 28, ground := Ground.data }, { on := 35, ground := Ground.data }], guard := none }) (v := ?_) rfl (by kernel_rfl) (by kernel_rfl) (by kernel_rfl) (fun _ _ _ h => h) (Or.inl ⟨by rfl, ?_⟩) hHeld ?_
          rotate_left
          · intro w hSw; (try dsimp only at hSw); go_simp; with_reducible rfl
          try simp only [Act.put, List.setIfInBounds_toArray, List.set_cons_zero, List.set_cons_succ, ka2, ka3, u5]
          refine wpAnyH_done (by kernel_rfl) ?_ _
          go_wp2_with fail
          go_ret
          exact ⟨⟨false, rfl, ⟨fun h => (by cases h), fun h => absurd (HI.out.1 h).2.2.1 HNB.out⟩⟩, HB0.out.drew⟩
        · by_cases q6 : 9007199254740991 < n
          · have ka2 : (k == 2) = false := by rw [beq_eq_false_iff_ne]; omega
            have kb2 : (k != 2) = true := by rw [bne_iff_ne]; omega
            have ka3 : (k == 3) = true := by rw [beq_iff_eq]; exact e
            have kb3 : (k != 3) = false := by rw [bne_eq_false_iff_eq]; exact e
            have ka4 : (k == 4) = false := by rw [beq_eq_false_iff_ne]; omega
            have kb4 : (k != 4) = true := by rw [bne_iff_ne]; omega
            have ka5 : (k == 5) = false := by rw [beq_eq_false_iff_ne]; omega
            have kb5 : (k != 5) = true := by rw [bne_iff_ne]; omega
            have ka6 : (k == 6) = false := by rw [beq_eq_false_iff_ne]; omega
            have kb6 : (k != 6) = true := by rw [bne_iff_ne]; omega
            have kc1 : decide (k < 1) = false := decide_eq_false (by omega)
            have kc2 : decide (6 < k) = false := decide_eq_false (by omega)
            have hS0 : S.toList = [] := Classical.byContradiction fun x => hno (.inr (.inl ⟨x, by omega⟩))
            have hS1 : (S.toList != []) = false := by rw [hS0]; rfl
            have ha0 : a = 0 := Classical.byContradiction fun x => hno (.inr (.inr (.inl ⟨x, by omega⟩)))
            have hm0 : lm = 0 := Classical.byContradiction fun x => hno (.inr (.inr (.inr ⟨x, by omega⟩)))
            have HEM := Lib.hid (HNIL.out hm0)
            have HNO := Lib.hid hno
            have u5 : decide (n < -9007199254740991) = false := decide_eq_false q5
            have u6 : decide (9007199254740991 < n) = true := decide_eq_true q6
            have hnb : ¬ ((k = 2 → n = 0 ∨ n = 1) ∧ (k = 3 → -9007199254740991 ≤ n ∧ n ≤ 9007199254740991)) := fun h => by have := h.2 e; omega
            have HNB := Lib.hid hnb; clear hnb
            clear q5 q6 e
            subst ha0
            subst hm0
            have HK := Lib.hid hk
            clear hno hk
            go_enter Tryd.func25, Tryd.ntmps25
            go_wp2_with fail
            rw [← HW0.out]
            refine wp_region_held_drew (S := (fun w' => w'.cell? ⟨w.heap.size, 0, none⟩ = some (.int .i64 k) ∧ w'.cell? ⟨w.heap.size, 1, none⟩ = some (.int .i64 n) ∧ w'.cell? ⟨w.heap.size, 2, none⟩ = some (.string S))) (by kernel_rfl) (by go_keep) (fun hHeld => ?_)
            refine wpAnyH_take (i := 0) (oi := { dst := some 58, op := Op.fieldAddr 25 (Operand.tmp 1) 0, type := 0, pos := "ref.go:19", after := #[], guard := none }) (v := ?_) rfl (by kernel_rfl) (by kernel_rfl) (by kernel_rfl) (fun _ _ _ h => h) (Or.inl ⟨by rfl, ?_⟩) hHeld ?_
            rotate_left
            · intro w hSw; (try dsimp only at hSw); go_simp; with_reducible rfl
            try simp only [Act.put, List.setIfInBounds_toArray, List.set_cons_zero, List.set_cons_succ, ka2, ka3, u5, u6]
            refine wpAnyH_take (i := 1) (oi := { dst := some 59, op := Op.load 3 (Operand.tmp 58), type := 3, pos := "ref.go:19", after := #[{ on := 0, ground := Ground.data }], guard := none }) (v := ?_) rfl (by kernel_rfl) (by kernel_rfl) (by kernel_rfl) (fun _ _ _ h => h) (Or.inl ⟨by rfl, ?_⟩) hHeld ?_
            rotate_left
            · intro w hSw; (try dsimp only at hSw); go_simp; with_reducible rfl
            try simp only [Act.put, List.setIfInBounds_toArray, List.set_cons_zero, List.set_cons_succ, ka2, ka3, u5, u6]
            refine wpAnyH_take (i := 2) (oi := { dst := some 60, op := Op.binOp BinOp.eql 3 (Operand.tmp 59) (Operand.const (Value.int IntKind.i64 2)) 3, type := 4, pos := "ref.go:19", after := #[{ on := 1, ground := Ground.data }], guard := none }) (v := ?_) rfl (by kernel_rfl) (by kernel_rfl) (by kernel_rfl) (fun _ _ _ h => h) (Or.inl ⟨by rfl, ?_⟩) hHeld ?_
            rotate_left
            · intro w hSw; (try dsimp only at hSw); go_simp; with_reducible rfl
            try simp only [Act.put, List.setIfInBounds_toArray, List.set_cons_zero, List.set_cons_succ, ka2, ka3, u5, u6]
            refine wpAnyH_take (i := 3) (oi := { dst := some 61, op := Op.move (Operand.tmp 60), type := 4, pos := "ref.go:19", after := #[{ on := 2, ground := Ground.data }], guard := none }) (v := ?_) rfl (by kernel_rfl) (by kernel_rfl) (by kernel_rfl) (fun _ _ _ h => h) (Or.inl ⟨by rfl, ?_⟩) hHeld ?_
            rotate_left
            · intro w hSw; (try dsimp only at hSw); go_simp; with_reducible rfl
            try simp only [Act.put, List.setIfInBounds_toArray, List.set_cons_zero, List.set_cons_succ, ka2, ka3, u5, u6]
            refine wpAnyH_take (i := 4) (oi := { dst := some 62, op := Op.fieldAddr 25 (Operand.tmp 1) 1, type := 0, pos := "ref.go:19", after := #[{ on := 3, ground := Ground.guard }], guard := some (3, true) }) (v := undef) rfl (by kernel_rfl) (by kernel_rfl) (by kernel_rfl) (fun _ _ _ h => h) (Or.inr ⟨by rfl, rfl⟩) hHeld ?_
            try simp only [Act.put, List.setIfInBounds_toArray, List.set_cons_zero, List.set_cons_succ, ka2, ka3, u5, u6]
            refine wpAnyH_take (i := 5) (oi := { dst := some 63, op := Op.load 2 (Operand.tmp 62), type := 2, pos := "ref.go:19", after := #[{ on := 4, ground := Ground.data }, { on := 3, ground := Ground.guard }], guard := some (3, true) }) (v := undef) rfl (by kernel_rfl) (by kernel_rfl) (by kernel_rfl) (fun _ _ _ h => h) (Or.inr ⟨by rfl, rfl⟩) hHeld ?_
            try simp only [Act.put, List.setIfInBounds_toArray, List.set_cons_zero, List.set_cons_succ, ka2, ka3, u5, u6]
            refine wpAnyH_take (i := 6) (oi := { dst := some 64, op := Op.binOp BinOp.neq 2 (Operand.tmp 63) (Operand.const (Value.int IntKind.i64 0)) 2, type := 4, pos := "ref.go:19", after := #[{ on := 5, ground := Ground.data }, { on := 3, ground := Ground.guard }], guard := some (3, true) }) (v := undef) rfl (by kernel_rfl) (by kernel_rfl) (by kernel_rfl) (fun _ _ _ h => h) (Or.inr ⟨by rfl, rfl⟩) hHeld ?_
            try simp only [Act.put, List.setIfInBounds_toArray, List.set_cons_zero, List.set_cons_succ, ka2, ka3, u5, u6]
            refine wpAnyH_take (i := 7) (oi := { dst := some 65, op := Op.pick (Operand.tmp 61) (Operand.tmp 64) (Operand.const (Value.bool false)), type := 4, pos := "ref.go:19", after := #[{ on := 3, ground := Ground.data }, { on := 6, ground := Ground.data }], guard := none }) (v := ?_) rfl (by kernel_rfl) (by kernel_rfl) (by kernel_rfl) (fun _ _ _ h => h) (Or.inl ⟨by rfl, ?_⟩) hHeld ?_
            rotate_left
            · intro w hSw; (try dsimp only at hSw); go_simp; with_reducible rfl
            try simp only [Act.put, List.setIfInBounds_toArray, List.set_cons_zero, List.set_cons_succ, ka2, ka3, u5, u6]
            refine wpAnyH_take (i := 8) (oi := { dst := some 66, op := Op.move (Operand.tmp 65), type := 4, pos := "ref.go:19", after := #[{ on := 7, ground := Ground.data }, { on := 3, ground := Ground.chain }], guard := none }) (v := ?_) rfl (by kernel_rfl) (by kernel_rfl) (by kernel_rfl) (fun _ _ _ h => h) (Or.inl ⟨by rfl, ?_⟩) hHeld ?_
            rotate_left
            · intro w hSw; (try dsimp only at hSw); go_simp; with_reducible rfl
            try simp only [Act.put, List.setIfInBounds_toArray, List.set_cons_zero, List.set_cons_succ, ka2, ka3, u5, u6]
            refine wpAnyH_take (i := 9) (oi := { dst := some 67, op := Op.fieldAddr 25 (Operand.tmp 1) 1, type := 0, pos := "ref.go:19", after := #[{ on := 8, ground := Ground.guard }], guard := some (8, true) }) (v := undef) rfl (by kernel_rfl) (by kernel_rfl) (by kernel_rfl) (fun _ _ _ h => h) (Or.inr ⟨by rfl, rfl⟩) hHeld ?_
            try simp only [Act.put, List.setIfInBounds_toArray, List.set_cons_zero, List.set_cons_succ, ka2, ka3, u5, u6]
            refine wpAnyH_take (i := 10) (oi := { dst := some 68, op := Op.load 2 (Operand.tmp 67), type := 2, pos := "ref.go:19", after := #[{ on := 9, ground := Ground.data }, { on := 8, ground := Ground.guard }], guard := some (8, true) }) (v := undef) rfl (by kernel_rfl) (by kernel_rfl) (by kernel_rfl) (fun _ _ _ h => h) (Or.inr ⟨by rfl, rfl⟩) hHeld ?_
            try simp only [Act.put, List.setIfInBounds_toArray, List.set_cons_zero, List.set_cons_succ, ka2, ka3, u5, u6]
            refine wpAnyH_take (i := 11) (oi := { dst := some 69, op := Op.binOp BinOp.neq 2 (Operand.tmp 68) (Operand.const (Value.int IntKind.i64 1)) 2, type := 4, pos := "ref.go:19", after := #[{ on := 10, ground := Ground.data }, { on := 8, ground := Ground.guard }], guard := some (8, true) }) (v := undef) rfl (by kernel_rfl) (by kernel_rfl) (by kernel_rfl) (fun _ _ _ h => h) (Or.inr ⟨by rfl, rfl⟩) hHeld ?_
            try simp only [Act.put, List.setIfInBounds_toArray, List.set_cons_zero, List.set_cons_succ, ka2, ka3, u5, u6]
            refine wpAnyH_take (i := 12) (oi := { dst := some 70, op := Op.pick (Operand.tmp 66) (Operand.tmp 69) (Operand.const (Value.bool false)), type := 4, pos := "ref.go:19", after := #[{ on := 8, ground := Ground.data }, { on := 11, ground := Ground.data }], guard := none }) (v := ?_) rfl (by kernel_rfl) (by kernel_rfl) (by kernel_rfl) (fun _ _ _ h => h) (Or.inl ⟨by rfl, ?_⟩) hHeld ?_
            rotate_left
            · intro w hSw; (try dsimp only at hSw); go_simp; with_reducible rfl
            try simp only [Act.put, List.setIfInBounds_toArray, List.set_cons_zero, List.set_cons_succ, ka2, ka3, u5, u6]
            refine wpAnyH_take (i := 13) (oi := { dst := some 71, op := Op.move (Operand.tmp 70), type := 4, pos := "ref.go:19", after := #[{ on := 12, ground := Ground.data }, { on := 8, ground := Ground.chain }], guard := none }) (v := ?_) rfl (by kernel_rfl) (by kernel_rfl) (by kernel_rfl) (fun _ _ _ h => h) (Or.inl ⟨by rfl, ?_⟩) hHeld ?_
            rotate_left
            · intro w hSw; (try dsimp only at hSw); go_simp; with_reducible rfl
            try simp only [Act.put, List.setIfInBounds_toArray, List.set_cons_zero, List.set_cons_succ, ka2, ka3, u5, u6]
            refine wpAnyH_take (i := 14) (oi := { dst := some 72, op := Op.fieldAddr 25 (Operand.tmp 1) 0, type := 0, pos := "ref.go:19", after := #[{ on := 13, ground := Ground.guard }], guard := some (13, false) }) (v := ?_) rfl (by kernel_rfl) (by kernel_rfl) (by kernel_rfl) (fun _ _ _ h => h) (Or.inl ⟨by rfl, ?_⟩) hHeld ?_
            rotate_left
            · intro w hSw; (try dsimp only at hSw); go_simp; with_reducible rfl
            try simp only [Act.put, List.setIfInBounds_toArray, List.set_cons_zero, List.set_cons_succ, ka2, ka3, u5, u6]
            refine wpAnyH_take (i := 15) (oi := { dst := some 73, op := Op.load 3 (Operand.tmp 72), type := 3, pos := "ref.go:19", after := #[{ on := 14, ground := Ground.data }, { on := 13, ground := Ground.guard }], guard := some (13, false) }) (v := ?_) rfl (by kernel_rfl) (by kernel_rfl) (by kernel_rfl) (fun _ _ _ h => h) (Or.inl ⟨by rfl, ?_⟩) hHeld ?_
            rotate_left
            · intro w hSw; (try dsimp only at hSw); go_simp; with_reducible rfl
            try simp only [Act.put, List.setIfInBounds_toArray, List.set_cons_zero, List.set_cons_succ, ka2, ka3, u5, u6]
            refine wpAnyH_take (i := 16) (oi := { dst := some 74, op := Op.binOp BinOp.eql 3 (Operand.tmp 73) (Operand.const (Value.int IntKind.i64 3)) 3, type := 4, pos := "ref.go:19", after := #[{ on := 15, ground := Ground.data }, { on := 13, ground := Ground.guard }], guard := some (13, false) }) (v := ?_) rfl (by kernel_rfl) (by kernel_rfl) (by kernel_rfl) (fun _ _ _ h => h) (Or.inl ⟨by rfl, ?_⟩) hHeld ?_
            rotate_left
            · intro w hSw; (try dsimp only at hSw); go_simp; with_reducible rfl
            try simp only [Act.put, List.setIfInBounds_toArray, List.set_cons_zero, List.set_cons_succ, ka2, ka3, u5, u6]
            refine wpAnyH_take (i := 17) (oi := { dst := some 75, op := Op.move (Operand.tmp 74), type := 4, pos := "ref.go:19", after := #[{ on := 16, ground := Ground.data }, { on := 13, ground := Ground.chain }, { on := 13, ground := Ground.guard }], guard := some (13, false) }) (v := ?_) rfl (by kernel_rfl) (by kernel_rfl) (by kernel_rfl) (fun _ _ _ h => h) (Or.inl ⟨by rfl, ?_⟩) hHeld ?_
            rotate_left
            · intro w hSw; (try dsimp only at hSw); go_simp; with_reducible rfl
            try simp only [Act.put, List.setIfInBounds_toArray, List.set_cons_zero, List.set_cons_succ, ka2, ka3, u5, u6]
            refine wpAnyH_take (i := 18) (oi := { dst := some 76, op := Op.fieldAddr 25 (Operand.tmp 1) 1, type := 0, pos := "ref.go:19", after := #[{ on := 17, ground := Ground.guard }], guard := some (17, true) }) (v := ?_) rfl (by kernel_rfl) (by kernel_rfl) (by kernel_rfl) (fun _ _ _ h => h) (Or.inl ⟨by rfl, ?_⟩) hHeld ?_
            rotate_left
            · intro w hSw; (try dsimp only at hSw); go_simp; with_reducible rfl
            try simp only [Act.put, List.setIfInBounds_toArray, List.set_cons_zero, List.set_cons_succ, ka2, ka3, u5, u6]
            refine wpAnyH_take (i := 19) (oi := { dst := some 77, op := Op.load 2 (Operand.tmp 76), type := 2, pos := "ref.go:19", after := #[{ on := 18, ground := Ground.data }, { on := 17, ground := Ground.guard }], guard := some (17, true) }) (v := ?_) rfl (by kernel_rfl) (by kernel_rfl) (by kernel_rfl) (fun _ _ _ h => h) (Or.inl ⟨by rfl, ?_⟩) hHeld ?_
            rotate_left
            · intro w hSw; (try dsimp only at hSw); go_simp; with_reducible rfl
            try simp only [Act.put, List.setIfInBounds_toArray, List.set_cons_zero, List.set_cons_succ, ka2, ka3, u5, u6]
            refine wpAnyH_take (i := 20) (oi := { dst := some 78, op := Op.binOp BinOp.lss 2 (Operand.tmp 77) (Operand.const (Value.int IntKind.i64 (-9007199254740991))) 2, type := 4, pos := "ref.go:19", after := #[{ on := 19, ground := Ground.data }, { on := 17, ground := Ground.guard }], guard := some (17, true) }) (v := ?_) rfl (by kernel_rfl) (by kernel_rfl) (by kernel_rfl) (fun _ _ _ h => h) (Or.inl ⟨by rfl, ?_⟩) hHeld ?_
            rotate_left
            · intro w hSw; (try dsimp only at hSw); go_simp; with_reducible rfl
            try simp only [Act.put, List.setIfInBounds_toArray, List.set_cons_zero, List.set_cons_succ, ka2, ka3, u5, u6]
            refine wpAnyH_take (i := 21) (oi := { dst := some 79, op := Op.move (Operand.tmp 78), type := 4, pos := "ref.go:19", after := #[{ on := 20, ground := Ground.data }, { on := 17, ground := Ground.chain }, { on := 17, ground := Ground.guard }], guard := some (17, true) }) (v := ?_) rfl (by kernel_rfl) (by kernel_rfl) (by kernel_rfl) (fun _ _ _ h => h) (Or.inl ⟨by rfl, ?_⟩) hHeld ?_
            rotate_left
            · intro w hSw; (try dsimp only at hSw); go_simp; with_reducible rfl
            try simp only [Act.put, List.setIfInBounds_toArray, List.set_cons_zero, List.set_cons_succ, ka2, ka3, u5, u6]
            refine wpAnyH_take (i := 22) (oi := { dst := some 80, op := Op.fieldAddr 25 (Operand.tmp 1) 1, type := 0, pos := "ref.go:19", after := #[{ on := 21, ground := Ground.guard }], guard := some (21, false) }) (v := ?_) rfl (by kernel_rfl) (by kernel_rfl) (by kernel_rfl) (fun _ _ _ h => h) (Or.inl ⟨by rfl, ?_⟩) hHeld ?_
            rotate_left
            · intro w hSw; (try dsimp only at hSw); go_simp; with_reducible rfl
            try simp only [Act.put, List.setIfInBounds_toArray, List.set_cons_zero, List.set_cons_succ, ka2, ka3, u5, u6]
            refine wpAnyH_take (i := 23) (oi := { dst := some 81, op := Op.load 2 (Operand.tmp 80), type := 2, pos := "ref.go:19", after := #[{ on := 22, ground := Ground.data }, { on := 21, ground := Ground.guard }], guard := some (21, false) }) (v := ?_) rfl (by kernel_rfl) (by kernel_rfl) (by kernel_rfl) (fun _ _ _ h => h) (Or.inl ⟨by rfl, ?_⟩) hHeld ?_
            rotate_left
            · intro w hSw; (try dsimp only at hSw); go_simp; with_reducible rfl
            try simp only [Act.put, List.setIfInBounds_toArray, List.set_cons_zero, List.set_cons_succ, ka2, ka3, u5, u6]
            refine wpAnyH_take (i := 24) (oi := { dst := some 82, op := Op.binOp BinOp.gtr 2 (Operand.tmp 81) (Operand.const (Value.int IntKind.i64 9007199254740991)) 2, type := 4, pos := "ref.go:19", after := #[{ on := 23, ground := Ground.data }, { on := 21, ground := Ground.guard }], guard := some (21, false) }) (v := ?_) rfl (by kernel_rfl) (by kernel_rfl) (by kernel_rfl) (fun _ _ _ h => h) (Or.inl ⟨by rfl, ?_⟩) hHeld ?_
            rotate_left
            · intro w hSw; (try dsimp only at hSw); go_simp; with_reducible rfl
            try simp only [Act.put, List.setIfInBounds_toArray, List.set_cons_zero, List.set_cons_succ, ka2, ka3, u5, u6]
            refine wpAnyH_take (i := 25) (oi := { dst := some 83, op := Op.pick (Operand.tmp 79) (Operand.const (Value.bool true)) (Operand.tmp 82), type := 4, pos := "ref.go:19", after := #[{ on := 21, ground := Ground.data }, { on := 24, ground := Ground.data }, { on := 17, ground := Ground.guard }], guard := some (17, true) }) (v := ?_) rfl (by kernel_rfl) (by kernel_rfl) (by kernel_rfl) (fun _ _ _ h => h) (Or.inl ⟨by rfl, ?_⟩) hHeld ?_
            rotate_left
            · intro w hSw; (try dsimp only at hSw); go_simp; with_reducible rfl
            try simp only [Act.put, List.setIfInBounds_toArray, List.set_cons_zero, List.set_cons_succ, ka2, ka3, u5, u6]
            refine wpAnyH_take (i := 26) (oi := { dst := some 84, op := Op.pick (Operand.tmp 75) (Operand.tmp 83) (Operand.const (Value.bool false)), type := 4, pos := "ref.go:19", after := #[{ on := 17, ground := Ground.data }, { on := 25, ground := Ground.data }, { on := 13, ground := Ground.guard }], guard := some (13, false) }) (v := ?_) rfl (by kernel_rfl) (by kernel_rfl) (by kernel_rfl) (fun _ _ _ h => h) (Or.inl ⟨by rfl, ?_⟩) hHeld ?_
            rotate_left
            · intro w hSw; (try dsimp only at hSw); go_simp; with_reducible rfl
            try simp only [Act.put, List.setIfInBounds_toArray, List.set_cons_zero, List.set_cons_succ, ka2, ka3, u5, u6]
            refine wpAnyH_take (i := 27) (oi := { dst := some 85, op := Op.pick (Operand.tmp 71) (Operand.const (Value.bool true)) (Operand.tmp 84), type := 4, pos := "ref.go:19", after := #[{ on := 13, ground := Ground.data }, { on := 26, ground := Ground.data }], guard := none }) (v := ?_) rfl (by kernel_rfl) (by kernel_rfl) (by kernel_rfl) (fun _ _ _ h => h) (Or.inl ⟨by rfl, ?_⟩) hHeld ?_
            rotate_left
            · intro w hSw; (try dsimp only at hSw); go_simp; with_reducible rfl
            try simp only [Act.put, List.setIfInBounds_toArray, List.set_cons_zero, List.set_cons_succ, ka2, ka3, u5, u6]
            refine wpAnyH_take (i := 28) (oi := { dst := some 86, op := Op.move (Operand.tmp 85), type := 4, pos := "ref.go:19", after := #[{ on := 27, ground := Ground.data }, { on := 21, ground := Ground.chain }], guard := none }) (v := ?_) rfl (by kernel_rfl) (by kernel_rfl) (by kernel_rfl) (fun _ _ _ h => h) (Or.inl ⟨by rfl, ?_⟩) hHeld ?_
            rotate_left
            · intro w hSw; (try dsimp only at hSw); go_simp; with_reducible rfl
            try simp only [Act.put, List.setIfInBounds_toArray, List.set_cons_zero, List.set_cons_succ, ka2, ka3, u5, u6]
            refine wpAnyH_take (i := 29) (oi := { dst := some 87, op := Op.fieldAddr 25 (Operand.tmp 1) 2, type := 0, pos := "ref.go:19", after := #[{ on := 28, ground := Ground.guard }], guard := some (28, false) }) (v := undef) rfl (by kernel_rfl) (by kernel_rfl) (by kernel_rfl) (fun _ _ _ h => h) (Or.inr ⟨by rfl, rfl⟩) hHeld ?_
            try simp only [Act.put, List.setIfInBounds_toArray, List.set_cons_zero, List.set_cons_succ, ka2, ka3, u5, u6]
            refine wpAnyH_take (i := 30) (oi := { dst := some 88, op := Op.load 9 (Operand.tmp 87), type := 9, pos := "ref.go:19", after := #[{ on := 29, ground := Ground.data }, { on := 28, ground := Ground.guard }], guard := some (28, false) }) (v := undef) rfl (by kernel_rfl) (by kernel_rfl) (by kernel_rfl) (fun _ _ _ h => h) (Or.inr ⟨by rfl, rfl⟩) hHeld ?_
            try simp only [Act.put, List.setIfInBounds_toArray, List.set_cons_zero, List.set_cons_succ, ka2, ka3, u5, u6]
            refine wpAnyH_take (i := 32) (oi := { dst := some 90, op := Op.fieldAddr 25 (Operand.tmp 1) 2, type := 0, pos := "ref.go:19", after := #[{ on := 28, ground := Ground.guard }], guard := some (28, false) }) (v := undef) rfl (by kernel_rfl) (by kernel_rfl) (by kernel_rfl) (fun _ _ _ h => h) (Or.inr ⟨by rfl, rfl⟩) hHeld ?_
            try simp only [Act.put, List.setIfInBounds_toArray, List.set_cons_zero, List.set_cons_succ, ka2, ka3, u5, u6]
            refine wpAnyH_take (i := 33) (oi := { dst := some 91, op := Op.load 9 (Operand.tmp 90), type := 9, pos := "ref.go:19", after := #[{ on := 32, ground := Ground.data }, { on := 28, ground := Ground.guard }], guard := some (28, false) }) (v := undef) rfl (by kernel_rfl) (by kernel_rfl) (by kernel_rfl) (fun _ _ _ h => h) (Or.inr ⟨by rfl, rfl⟩) hHeld ?_
            try simp only [Act.put, List.setIfInBounds_toArray, List.set_cons_zero, List.set_cons_succ, ka2, ka3, u5, u6]
            refine wpAnyH_take (i := 34) (oi := { dst := some 92, op := Op.call { callee := Callee.builtin Builtin.len, args := #[Operand.tmp 91], argTypes := #[9] }, type := 3, pos := "ref.go:19", after := #[{ on := 33, ground := Ground.data }, { on := 28, ground := Ground.guard }], guard := some (28, false) }) (v := undef) rfl (by kernel_rfl) (by kernel_rfl) (by kernel_rfl) (fun _ _ _ h => h) (Or.inr ⟨by rfl, rfl⟩) hHeld ?_
            try simp only [Act.put, List.setIfInBounds_toArray, List.set_cons_zero, List.set_cons_succ, ka2, ka3, u5, u6]
            refine wpAnyH_take (i := 31) (oi := { dst := some 89, op := Op.call { callee := Callee.value (Operand.func 35), args := #[Operand.tmp 88], argTypes := #[9] }, type := 3, pos := "ref.go:19", after := #[{ on := 30, ground := Ground.data }, { on := 28, ground := Ground.chain }, { on := 28, ground := Ground.guard }], guard := some (28, false) }) (v := undef) rfl (by kernel_rfl) (by kernel_rfl) (by kernel_rfl) (fun _ _ _ h => h) (Or.inr ⟨by rfl, rfl⟩) hHeld ?_
            try simp only [Act.put, List.setIfInBounds_toArray, List.set_cons_zero, List.set_cons_succ, ka2, ka3, u5, u6]
            refine wpAnyH_take (i := 35) (oi := { dst := some 93, op := Op.binOp BinOp.neq 3 (Operand.tmp 89) (Operand.tmp 92) 3, type := 4, pos := "ref.go:19", after := #[{ on := 31, ground := Ground.data }, { on := 34, ground := Ground.data }, { on := 28, ground := Ground.guard }], guard := some (28, false) }) (v := undef) rfl (by kernel_rfl) (by kernel_rfl) (by kernel_rfl) (fun _ _ _ h => h) (Or.inr ⟨by rfl, rfl⟩) hHeld ?_
            try simp only [Act.put, List.setIfInBounds_toArray, List.set_cons_zero, List.set_cons_succ, ka2, ka3, u5, u6]
            refine wpAnyH_take (i := 36) (oi := { dst := some 94, op := Op.pick (Operand.tmp 86) (Operand.const (Value.bool true)) (Operand.tmp 93), type := 4, pos := "ref.go:19", after := #[{ on := 28, ground := Ground.data }, { on := 35, ground := Ground.data }], guard := none }) (v := ?_) rfl (by kernel_rfl) (by kernel_rfl) (by kernel_rfl) (fun _ _ _ h => h) (Or.inl ⟨by rfl, ?_⟩) hHeld ?_
            rotate_left
            · intro w hSw; (try dsimp only at hSw); go_simp; with_reducible rfl
            try simp only [Act.put, List.setIfInBounds_toArray, List.set_cons_zero, List.set_cons_succ, ka2, ka3, u5, u6]
            refine wpAnyH_done (by kernel_rfl) ?_ _
            go_wp2_with fail
            go_ret
            exact ⟨⟨false, rfl, ⟨fun h => (by cases h), fun h => absurd (HI.out.1 h).2.2.1 HNB.out⟩⟩, HB0.out.drew⟩
          · have ka2 : (k == 2) = false := by rw [beq_eq_false_iff_ne]; omega
            have kb2 : (k != 2) = true := by rw [bne_iff_ne]; omega
            have ka3 : (k == 3) = true := by rw [beq_iff_eq]; exact e
            have kb3 : (k != 3) = false := by rw [bne_eq_false_iff_eq]; exact e
            have ka4 : (k == 4) = false := by rw [beq_eq_false_iff_ne]; omega
            have kb4 : (k != 4) = true := by rw [bne_iff_ne]; omega
            have ka5 : (k == 5) = false := by rw [beq_eq_false_iff_ne]; omega
            have kb5 : (k != 5) = true := by rw [bne_iff_ne]; omega
            have ka6 : (k == 6) = false := by rw [beq_eq_false_iff_ne]; omega
            have kb6 : (k != 6) = true := by rw [bne_iff_ne]; omega
            have kc1 : decide (k < 1) = false := decide_eq_false (by omega)
            have kc2 : decide (6 < k) = false := decide_eq_false (by omega)
            have hS0 : S.toList = [] := Classical.byContradiction fun x => hno (.inr (.inl ⟨x, by omega⟩))
            have hS1 : (S.toList != []) = false := by rw [hS0]; rfl
            have ha0 : a = 0 := Classical.byContradiction fun x => hno (.inr (.inr (.inl ⟨x, by omega⟩)))
            have hm0 : lm = 0 := Classical.byContradiction fun x => hno (.inr (.inr (.inr ⟨x, by omega⟩)))
            have HEM := Lib.hid (HNIL.out hm0)
            have HNO := Lib.hid hno
            have u5 : decide (n < -9007199254740991) = false := decide_eq_false q5
            have u6 : decide (9007199254740991 < n) = false := decide_eq_false q6
            have hnum : (k = 2 → n = 0 ∨ n = 1) ∧ (k = 3 → -9007199254740991 ≤ n ∧ n ≤ 9007199254740991) := ⟨fun h => absurd h (by omega), fun _ => ⟨by omega, by omega⟩⟩
            have HNUM := Lib.hid hnum; clear hnum
            clear q5 q6 e
            subst ha0
            subst hm0
            have HK := Lib.hid hk
            clear hno hk
            go_enter Tryd.func25, Tryd.ntmps25
            go_wp2_with fail
            rw [← HW0.out]
            refine wp_region_held_drew (S := (fun w' => w'.cell? ⟨w.heap.size, 0, none⟩ = some (.int .i64 k) ∧ w'.cell? ⟨w.heap.size, 1, none⟩ = some (.int .i64 n) ∧ w'.cell? ⟨w.heap.size, 2, none⟩ = some (.string S))) (by kernel_rfl) (by go_keep) (fun hHeld => ?_)
            refine wpAnyH_take (i := 0) (oi := { dst := some 58, op := Op.fieldAddr 25 (Operand.tmp 1) 0, type := 0, pos := "ref.go:19", after := #[], guard := none }) (v := ?_) rfl (by kernel_rfl) (by kernel_rfl) (by kernel_rfl) (fun _ _ _ h => h) (Or.inl ⟨by rfl, ?_⟩) hHeld ?_
            rotate_left
            · intro w hSw; (try dsimp only at hSw); go_simp; with_reducible rfl
            try simp only [Act.put, List.setIfInBounds_toArray, List.set_cons_zero, List.set_cons_succ, ka2, ka3, u5, u6]
            refine wpAnyH_take (i := 1) (oi := { dst := some 59, op := Op.load 3 (Operand.tmp 58), type := 3, pos := "ref.go:19", after := #[{ on := 0, ground := Ground.data }], guard := none }) (v := ?_) rfl (by kernel_rfl) (by kernel_rfl) (by kernel_rfl) (fun _ _ _ h => h) (Or.inl ⟨by rfl, ?_⟩) hHeld ?_
            rotate_left
            · intro w hSw; (try dsimp only at hSw); go_simp; with_reducible rfl
            try simp only [Act.put, List.setIfInBounds_toArray, List.set_cons_zero, List.set_cons_succ, ka2, ka3, u5, u6]
            refine wpAnyH_take (i := 2) (oi := { dst := some 60, op := Op.binOp BinOp.eql 3 (Operand.tmp 59) (Operand.const (Value.int IntKind.i64 2)) 3, type := 4, pos := "ref.go:19", after := #[{ on := 1, ground := Ground.data }], guard := none }) (v := ?_) rfl (by kernel_rfl) (by kernel_rfl) (by kernel_rfl) (fun _ _ _ h => h) (Or.inl ⟨by rfl, ?_⟩) hHeld ?_
            rotate_left
            · intro w hSw; (try dsimp only at hSw); go_simp; with_reducible rfl
            try simp only [Act.put, List.setIfInBounds_toArray, List.set_cons_zero, List.set_cons_succ, ka2, ka3, u5, u6]
            refine wpAnyH_take (i := 3) (oi := { dst := some 61, op := Op.move (Operand.tmp 60), type := 4, pos := "ref.go:19", after := #[{ on := 2, ground := Ground.data }], guard := none }) (v := ?_) rfl (by kernel_rfl) (by kernel_rfl) (by kernel_rfl) (fun _ _ _ h => h) (Or.inl ⟨by rfl, ?_⟩) hHeld ?_
            rotate_left
            · intro w hSw; (try dsimp only at hSw); go_simp; with_reducible rfl
            try simp only [Act.put, List.setIfInBounds_toArray, List.set_cons_zero, List.set_cons_succ, ka2, ka3, u5, u6]
            refine wpAnyH_take (i := 4) (oi := { dst := some 62, op := Op.fieldAddr 25 (Operand.tmp 1) 1, type := 0, pos := "ref.go:19", after := #[{ on := 3, ground := Ground.guard }], guard := some (3, true) }) (v := undef) rfl (by kernel_rfl) (by kernel_rfl) (by kernel_rfl) (fun _ _ _ h => h) (Or.inr ⟨by rfl, rfl⟩) hHeld ?_
            try simp only [Act.put, List.setIfInBounds_toArray, List.set_cons_zero, List.set_cons_succ, ka2, ka3, u5, u6]
            refine wpAnyH_take (i := 5) (oi := { dst := some 63, op := Op.load 2 (Operand.tmp 62), type := 2, pos := "ref.go:19", after := #[{ on := 4, ground := Ground.data }, { on := 3, ground := Ground.guard }], guard := some (3, true) }) (v := undef) rfl (by kernel_rfl) (by kernel_rfl) (by kernel_rfl) (fun _ _ _ h => h) (Or.inr ⟨by rfl, rfl⟩) hHeld ?_
            try simp only [Act.put, List.setIfInBounds_toArray, List.set_cons_zero, List.set_cons_succ, ka2, ka3, u5, u6]
            refine wpAnyH_take (i := 6) (oi := { dst := some 64, op := Op.binOp BinOp.neq 2 (Operand.tmp 63) (Operand.const (Value.int IntKind.i64 0)) 2, type := 4, pos := "ref.go:19", after := #[{ on := 5, ground := Ground.data }, { on := 3, ground := Ground.guard }], guard := some (3, true) }) (v := undef) rfl (by kernel_rfl) (by kernel_rfl) (by kernel_rfl) (fun _ _ _ h => h) (Or.inr ⟨by rfl, rfl⟩) hHeld ?_
            try simp only [Act.put, List.setIfInBounds_toArray, List.set_cons_zero, List.set_cons_succ, ka2, ka3, u5, u6]
            refine wpAnyH_take (i := 7) (oi := { dst := some 65, op := Op.pick (Operand.tmp 61) (Operand.tmp 64) (Operand.const (Value.bool false)), type := 4, pos := "ref.go:19", after := #[{ on := 3, ground := Ground.data }, { on := 6, ground := Ground.data }], guard := none }) (v := ?_) rfl (by kernel_rfl) (by kernel_rfl) (by kernel_rfl) (fun _ _ _ h => h) (Or.inl ⟨by rfl, ?_⟩) hHeld ?_
            rotate_left
            · intro w hSw; (try dsimp only at hSw); go_simp; with_reducible rfl
            try simp only [Act.put, List.setIfInBounds_toArray, List.set_cons_zero, List.set_cons_succ, ka2, ka3, u5, u6]
            refine wpAnyH_take (i := 8) (oi := { dst := some 66, op := Op.move (Operand.tmp 65), type := 4, pos := "ref.go:19", after := #[{ on := 7, ground := Ground.data }, { on := 3, ground := Ground.chain }], guard := none }) (v := ?_) rfl (by kernel_rfl) (by kernel_rfl) (by kernel_rfl) (fun _ _ _ h => h) (Or.inl ⟨by rfl, ?_⟩) hHeld ?_
            rotate_left
            · intro w hSw; (try dsimp only at hSw); go_simp; with_reducible rfl
            try simp only [Act.put, List.setIfInBounds_toArray, List.set_cons_zero, List.set_cons_succ, ka2, ka3, u5, u6]
            refine wpAnyH_take (i := 9) (oi := { dst := some 67, op := Op.fieldAddr 25 (Operand.tmp 1) 1, type := 0, pos := "ref.go:19", after := #[{ on := 8, ground := Ground.guard }], guard := some (8, true) }) (v := undef) rfl (by kernel_rfl) (by kernel_rfl) (by kernel_rfl) (fun _ _ _ h => h) (Or.inr ⟨by rfl, rfl⟩) hHeld ?_
            try simp only [Act.put, List.setIfInBounds_toArray, List.set_cons_zero, List.set_cons_succ, ka2, ka3, u5, u6]
            refine wpAnyH_take (i := 10) (oi := { dst := some 68, op := Op.load 2 (Operand.tmp 67), type := 2, pos := "ref.go:19", after := #[{ on := 9, ground := Ground.data }, { on := 8, ground := Ground.guard }], guard := some (8, true) }) (v := undef) rfl (by kernel_rfl) (by kernel_rfl) (by kernel_rfl) (fun _ _ _ h => h) (Or.inr ⟨by rfl, rfl⟩) hHeld ?_
            try simp only [Act.put, List.setIfInBounds_toArray, List.set_cons_zero, List.set_cons_succ, ka2, ka3, u5, u6]
            refine wpAnyH_take (i := 11) (oi := { dst := some 69, op := Op.binOp BinOp.neq 2 (Operand.tmp 68) (Operand.const (Value.int IntKind.i64 1)) 2, type := 4, pos := "ref.go:19", after := #[{ on := 10, ground := Ground.data }, { on := 8, ground := Ground.guard }], guard := some (8, true) }) (v := undef) rfl (by kernel_rfl) (by kernel_rfl) (by kernel_rfl) (fun _ _ _ h => h) (Or.inr ⟨by rfl, rfl⟩) hHeld ?_
            try simp only [Act.put, List.setIfInBounds_toArray, List.set_cons_zero, List.set_cons_succ, ka2, ka3, u5, u6]
            refine wpAnyH_take (i := 12) (oi := { dst := some 70, op := Op.pick (Operand.tmp 66) (Operand.tmp 69) (Operand.const (Value.bool false)), type := 4, pos := "ref.go:19", after := #[{ on := 8, ground := Ground.data }, { on := 11, ground := Ground.data }], guard := none }) (v := ?_) rfl (by kernel_rfl) (by kernel_rfl) (by kernel_rfl) (fun _ _ _ h => h) (Or.inl ⟨by rfl, ?_⟩) hHeld ?_
            rotate_left
            · intro w hSw; (try dsimp only at hSw); go_simp; with_reducible rfl
            try simp only [Act.put, List.setIfInBounds_toArray, List.set_cons_zero, List.set_cons_succ, ka2, ka3, u5, u6]
            refine wpAnyH_take (i := 13) (oi := { dst := some 71, op := Op.move (Operand.tmp 70), type := 4, pos := "ref.go:19", after := #[{ on := 12, ground := Ground.data }, { on := 8, ground := Ground.chain }], guard := none }) (v := ?_) rfl (by kernel_rfl) (by kernel_rfl) (by kernel_rfl) (fun _ _ _ h => h) (Or.inl ⟨by rfl, ?_⟩) hHeld ?_
            rotate_left
            · intro w hSw; (try dsimp only at hSw); go_simp; with_reducible rfl
            try simp only [Act.put, List.setIfInBounds_toArray, List.set_cons_zero, List.set_cons_succ, ka2, ka3, u5, u6]
            refine wpAnyH_take (i := 14) (oi := { dst := some 72, op := Op.fieldAddr 25 (Operand.tmp 1) 0, type := 0, pos := "ref.go:19", after := #[{ on := 13, ground := Ground.guard }], guard := some (13, false) }) (v := ?_) rfl (by kernel_rfl) (by kernel_rfl) (by kernel_rfl) (fun _ _ _ h => h) (Or.inl ⟨by rfl, ?_⟩) hHeld ?_
            rotate_left
            · intro w hSw; (try dsimp only at hSw); go_simp; with_reducible rfl
            try simp only [Act.put, List.setIfInBounds_toArray, List.set_cons_zero, List.set_cons_succ, ka2, ka3, u5, u6]
            refine wpAnyH_take (i := 15) (oi := { dst := some 73, op := Op.load 3 (Operand.tmp 72), type := 3, pos := "ref.go:19", after := #[{ on := 14, ground := Ground.data }, { on := 13, ground := Ground.guard }], guard := some (13, false) }) (v := ?_) rfl (by kernel_rfl) (by kernel_rfl) (by kernel_rfl) (fun _ _ _ h => h) (Or.inl ⟨by rfl, ?_⟩) hHeld ?_
            rotate_left
            · intro w hSw; (try dsimp only at hSw); go_simp; with_reducible rfl
            try simp only [Act.put, List.setIfInBounds_toArray, List.set_cons_zero, List.set_cons_succ, ka2, ka3, u5, u6]
            refine wpAnyH_take (i := 16) (oi := { dst := some 74, op := Op.binOp BinOp.eql 3 (Operand.tmp 73) (Operand.const (Value.int IntKind.i64 3)) 3, type := 4, pos := "ref.go:19", after := #[{ on := 15, ground := Ground.data }, { on := 13, ground := Ground.guard }], guard := some (13, false) }) (v := ?_) rfl (by kernel_rfl) (by kernel_rfl) (by kernel_rfl) (fun _ _ _ h => h) (Or.inl ⟨by rfl, ?_⟩) hHeld ?_
            rotate_left
            · intro w hSw; (try dsimp only at hSw); go_simp; with_reducible rfl
            try simp only [Act.put, List.setIfInBounds_toArray, List.set_cons_zero, List.set_cons_succ, ka2, ka3, u5, u6]
            refine wpAnyH_take (i := 17) (oi := { dst := some 75, op := Op.move (Operand.tmp 74), type := 4, pos := "ref.go:19", after := #[{ on := 16, ground := Ground.data }, { on := 13, ground := Ground.chain }, { on := 13, ground := Ground.guard }], guard := some (13, false) }) (v := ?_) rfl (by kernel_rfl) (by kernel_rfl) (by kernel_rfl) (fun _ _ _ h => h) (Or.inl ⟨by rfl, ?_⟩) hHeld ?_
            rotate_left
            · intro w hSw; (try dsimp only at hSw); go_simp; with_reducible rfl
            try simp only [Act.put, List.setIfInBounds_toArray, List.set_cons_zero, List.set_cons_succ, ka2, ka3, u5, u6]
            refine wpAnyH_take (i := 18) (oi := { dst := some 76, op := Op.fieldAddr 25 (Operand.tmp 1) 1, type := 0, pos := "ref.go:19", after := #[{ on := 17, ground := Ground.guard }], guard := some (17, true) }) (v := ?_) rfl (by kernel_rfl) (by kernel_rfl) (by kernel_rfl) (fun _ _ _ h => h) (Or.inl ⟨by rfl, ?_⟩) hHeld ?_
            rotate_left
            · intro w hSw; (try dsimp only at hSw); go_simp; with_reducible rfl
            try simp only [Act.put, List.setIfInBounds_toArray, List.set_cons_zero, List.set_cons_succ, ka2, ka3, u5, u6]
            refine wpAnyH_take (i := 19) (oi := { dst := some 77, op := Op.load 2 (Operand.tmp 76), type := 2, pos := "ref.go:19", after := #[{ on := 18, ground := Ground.data }, { on := 17, ground := Ground.guard }], guard := some (17, true) }) (v := ?_) rfl (by kernel_rfl) (by kernel_rfl) (by kernel_rfl) (fun _ _ _ h => h) (Or.inl ⟨by rfl, ?_⟩) hHeld ?_
            rotate_left
            · intro w hSw; (try dsimp only at hSw); go_simp; with_reducible rfl
            try simp only [Act.put, List.setIfInBounds_toArray, List.set_cons_zero, List.set_cons_succ, ka2, ka3, u5, u6]
            refine wpAnyH_take (i := 20) (oi := { dst := some 78, op := Op.binOp BinOp.lss 2 (Operand.tmp 77) (Operand.const (Value.int IntKind.i64 (-9007199254740991))) 2, type := 4, pos := "ref.go:19", after := #[{ on := 19, ground := Ground.data }, { on := 17, ground := Ground.guard }], guard := some (17, true) }) (v := ?_) rfl (by kernel_rfl) (by kernel_rfl) (by kernel_rfl) (fun _ _ _ h => h) (Or.inl ⟨by rfl, ?_⟩) hHeld ?_
            rotate_left
            · intro w hSw; (try dsimp only at hSw); go_simp; with_reducible rfl
            try simp only [Act.put, List.setIfInBounds_toArray, List.set_cons_zero, List.set_cons_succ, ka2, ka3, u5, u6]
            refine wpAnyH_take (i := 21) (oi := { dst := some 79, op := Op.move (Operand.tmp 78), type := 4, pos := "ref.go:19", after := #[{ on := 20, ground := Ground.data }, { on := 17, ground := Ground.chain }, { on := 17, ground := Ground.guard }], guard := some (17, true) }) (v := ?_) rfl (by kernel_rfl) (by kernel_rfl) (by kernel_rfl) (fun _ _ _ h => h) (Or.inl ⟨by rfl, ?_⟩) hHeld ?_
            rotate_left
            · intro w hSw; (try dsimp only at hSw); go_simp; with_reducible rfl
            try simp only [Act.put, List.setIfInBounds_toArray, List.set_cons_zero, List.set_cons_succ, ka2, ka3, u5, u6]
            refine wpAnyH_take (i := 22) (oi := { dst := some 80, op := Op.fieldAddr 25 (Operand.tmp 1) 1, type := 0, pos := "ref.go:19", after := #[{ on := 21, ground := Ground.guard }], guard := some (21, false) }) (v := ?_) rfl (by kernel_rfl) (by kernel_rfl) (by kernel_rfl) (fun _ _ _ h => h) (Or.inl ⟨by rfl, ?_⟩) hHeld ?_
            rotate_left
            · intro w hSw; (try dsimp only at hSw); go_simp; with_reducible rfl
            try simp only [Act.put, List.setIfInBounds_toArray, List.set_cons_zero, List.set_cons_succ, ka2, ka3, u5, u6]
            refine wpAnyH_take (i := 23) (oi := { dst := some 81, op := Op.load 2 (Operand.tmp 80), type := 2, pos := "ref.go:19", after := #[{ on := 22, ground := Ground.data }, { on := 21, ground := Ground.guard }], guard := some (21, false) }) (v := ?_) rfl (by kernel_rfl) (by kernel_rfl) (by kernel_rfl) (fun _ _ _ h => h) (Or.inl ⟨by rfl, ?_⟩) hHeld ?_
            rotate_left
            · intro w hSw; (try dsimp only at hSw); go_simp; with_reducible rfl
            try simp only [Act.put, List.setIfInBounds_toArray, List.set_cons_zero, List.set_cons_succ, ka2, ka3, u5, u6]
            refine wpAnyH_take (i := 24) (oi := { dst := some 82, op := Op.binOp BinOp.gtr 2 (Operand.tmp 81) (Operand.const (Value.int IntKind.i64 9007199254740991)) 2, type := 4, pos := "ref.go:19", after := #[{ on := 23, ground := Ground.data }, { on := 21, ground := Ground.guard }], guard := some (21, false) }) (v := ?_) rfl (by kernel_rfl) (by kernel_rfl) (by kernel_rfl) (fun _ _ _ h => h) (Or.inl ⟨by rfl, ?_⟩) hHeld ?_
            rotate_left
            · intro w hSw; (try dsimp only at hSw); go_simp; with_reducible rfl
            try simp only [Act.put, List.setIfInBounds_toArray, List.set_cons_zero, List.set_cons_succ, ka2, ka3, u5, u6]
            refine wpAnyH_take (i := 25) (oi := { dst := some 83, op := Op.pick (Operand.tmp 79) (Operand.const (Value.bool true)) (Operand.tmp 82), type := 4, pos := "ref.go:19", after := #[{ on := 21, ground := Ground.data }, { on := 24, ground := Ground.data }, { on := 17, ground := Ground.guard }], guard := some (17, true) }) (v := ?_) rfl (by kernel_rfl) (by kernel_rfl) (by kernel_rfl) (fun _ _ _ h => h) (Or.inl ⟨by rfl, ?_⟩) hHeld ?_
            rotate_left
            · intro w hSw; (try dsimp only at hSw); go_simp; with_reducible rfl
            try simp only [Act.put, List.setIfInBounds_toArray, List.set_cons_zero, List.set_cons_succ, ka2, ka3, u5, u6]
            refine wpAnyH_take (i := 26) (oi := { dst := some 84, op := Op.pick (Operand.tmp 75) (Operand.tmp 83) (Operand.const (Value.bool false)), type := 4, pos := "ref.go:19", after := #[{ on := 17, ground := Ground.data }, { on := 25, ground := Ground.data }, { on := 13, ground := Ground.guard }], guard := some (13, false) }) (v := ?_) rfl (by kernel_rfl) (by kernel_rfl) (by kernel_rfl) (fun _ _ _ h => h) (Or.inl ⟨by rfl, ?_⟩) hHeld ?_
            rotate_left
            · intro w hSw; (try dsimp only at hSw); go_simp; with_reducible rfl
            try simp only [Act.put, List.setIfInBounds_toArray, List.set_cons_zero, List.set_cons_succ, ka2, ka3, u5, u6]
            refine wpAnyH_take (i := 27) (oi := { dst := some 85, op := Op.pick (Operand.tmp 71) (Operand.const (Value.bool true)) (Operand.tmp 84), type := 4, pos := "ref.go:19", after := #[{ on := 13, ground := Ground.data }, { on := 26, ground := Ground.data }], guard := none }) (v := ?_) rfl (by kernel_rfl) (by kernel_rfl) (by kernel_rfl) (fun _ _ _ h => h) (Or.inl ⟨by rfl, ?_⟩) hHeld ?_
            rotate_left
            · intro w hSw; (try dsimp only at hSw); go_simp; with_reducible rfl
            try simp only [Act.put, List.setIfInBounds_toArray, List.set_cons_zero, List.set_cons_succ, ka2, ka3, u5, u6]
            refine wpAnyH_take (i := 28) (oi := { dst := some 86, op := Op.move (Operand.tmp 85), type := 4, pos := "ref.go:19", after := #[{ on := 27, ground := Ground.data }, { on := 21, ground := Ground.chain }], guard := none }) (v := ?_) rfl (by kernel_rfl) (by kernel_rfl) (by kernel_rfl) (fun _ _ _ h => h) (Or.inl ⟨by rfl, ?_⟩) hHeld ?_
            rotate_left
            · intro w hSw; (try dsimp only at hSw); go_simp; with_reducible rfl
            try simp only [Act.put, List.setIfInBounds_toArray, List.set_cons_zero, List.set_cons_succ, ka2, ka3, u5, u6]
            refine wpAnyH_take (i := 29) (oi := { dst := some 87, op := Op.fieldAddr 25 (Operand.tmp 1) 2, type := 0, pos := "ref.go:19", after := #[{ on := 28, ground := Ground.guard }], guard := some (28, false) }) (v := ?_) rfl (by kernel_rfl) (by kernel_rfl) (by kernel_rfl) (fun _ _ _ h => h) (Or.inl ⟨by rfl, ?_⟩) hHeld ?_
            rotate_left
            · intro w hSw; (try dsimp only at hSw); go_simp; with_reducible rfl
            try simp only [Act.put, List.setIfInBounds_toArray, List.set_cons_zero, List.set_cons_succ, ka2, ka3, u5, u6]
            refine wpAnyH_take (i := 30) (oi := { dst := some 88, op := Op.load 9 (Operand.tmp 87), type := 9, pos := "ref.go:19", after := #[{ on := 29, ground := Ground.data }, { on := 28, ground := Ground.guard }], guard := some (28, false) }) (v := ?_) rfl (by kernel_rfl) (by kernel_rfl) (by kernel_rfl) (fun _ _ _ h => h) (Or.inl ⟨by rfl, ?_⟩) hHeld ?_
            rotate_left
            · intro w hSw; (try dsimp only at hSw); go_simp; with_reducible rfl
            try simp only [Act.put, List.setIfInBounds_toArray, List.set_cons_zero, List.set_cons_succ, ka2, ka3, u5, u6]
            refine wpAnyH_take (i := 32) (oi := { dst := some 90, op := Op.fieldAddr 25 (Operand.tmp 1) 2, type := 0, pos := "ref.go:19", after := #[{ on := 28, ground := Ground.guard }], guard := some (28, false) }) (v := ?_) rfl (by kernel_rfl) (by kernel_rfl) (by kernel_rfl) (fun _ _ _ h => h) (Or.inl ⟨by rfl, ?_⟩) hHeld ?_
            rotate_left
            · intro w hSw; (try dsimp only at hSw); go_simp; with_reducible rfl
            try simp only [Act.put, List.setIfInBounds_toArray, List.set_cons_zero, List.set_cons_succ, ka2, ka3, u5, u6]
            refine wpAnyH_take (i := 33) (oi := { dst := some 91, op := Op.load 9 (Operand.tmp 90), type := 9, pos := "ref.go:19", after := #[{ on := 32, ground := Ground.data }, { on := 28, ground := Ground.guard }], guard := some (28, false) }) (v := ?_) rfl (by kernel_rfl) (by kernel_rfl) (by kernel_rfl) (fun _ _ _ h => h) (Or.inl ⟨by rfl, ?_⟩) hHeld ?_
            rotate_left
            · intro w hSw; (try dsimp only at hSw); go_simp; with_reducible rfl
            try simp only [Act.put, List.setIfInBounds_toArray, List.set_cons_zero, List.set_cons_succ, ka2, ka3, u5, u6]
            refine wpAnyH_take (i := 34) (oi := { dst := some 92, op := Op.call { callee := Callee.builtin Builtin.len, args := #[Operand.tmp 91], argTypes := #[9] }, type := 3, pos := "ref.go:19", after := #[{ on := 33, ground := Ground.data }, { on := 28, ground := Ground.guard }], guard := some (28, false) }) (v := ?_) rfl (by kernel_rfl) (by kernel_rfl) (by kernel_rfl) (fun _ _ _ h => h) (Or.inl ⟨by rfl, ?_⟩) hHeld ?_
            rotate_left
            · intro w hSw; (try dsimp only at hSw); go_simp; with_reducible rfl
            try simp only [Act.put, List.setIfInBounds_toArray, List.set_cons_zero, List.set_cons_succ, ka2, ka3, u5, u6]
            refine wpAnyH_ready (rs := [31]) (by kernel_rfl) (by simp) ?_
            refine AllReadyH.cons (o := { dst := some 89, op := Op.call { callee := Callee.value (Operand.func 35), args := #[Operand.tmp 88], argTypes := #[9] }, type := 3, pos := "ref.go:19", after := #[{ on := 30, ground := Ground.data }, { on := 28, ground := Ground.chain }, { on := 28, ground := Ground.guard }], guard := some (28, false) }) rfl (fun K hK => ?_) AllReadyH.nil
            go_simp
            refine (HB.out _).mono ?_
            rintro e w1 ⟨rfl, hb1⟩
            refine hK.out _ _ ⟨(hb1.cell (p := ⟨w.heap.size, 0, none⟩) (by show w.heap.size < w0.heap.size; omega)).trans f0, (hb1.cell (p := ⟨w.heap.size, 1, none⟩) (by show w.heap.size < w0.heap.size; omega)).trans f1, (hb1.cell (p := ⟨w.heap.size, 2, none⟩) (by show w.heap.size < w0.heap.size; omega)).trans f2⟩ (fun hHeld => ?_)
            clear hK K
            try simp only [Act.put, List.setIfInBounds_toArray, List.set_cons_zero, List.set_cons_succ, ka2, ka3, u5, u6]
            refine wpAnyH_take (i := 35) (oi := { dst := some 93, op := Op.binOp BinOp.neq 3 (Operand.tmp 89) (Operand.tmp 92) 3, type := 4, pos := "ref.go:19", after := #[{ on := 31, ground := Ground.data }, { on := 34, ground := Ground.data }, { on := 28, ground := Ground.guard }], guard := some (28, false) }) (v := ?_) rfl (by kernel_rfl) (by kernel_rfl) (by kernel_rfl) (fun _ _ _ h => h) (Or.inl ⟨by rfl, ?_⟩) hHeld ?_
            rotate_left
            · intro w hSw; (try dsimp only at hSw); go_simp; with_reducible rfl
            try simp only [Act.put, List.setIfInBounds_toArray, List.set_cons_zero, List.set_cons_succ, ka2, ka3, u5, u6]
            refine wpAnyH_take (i := 36) (oi := { dst := some 94, op := Op.pick (Operand.tmp 86) (Operand.const (Value.bool true)) (Operand.tmp 93), type := 4, pos := "ref.go:19", after := #[{ on := 28, ground := Ground.data }, { on := 35, ground := Ground.data }], guard := none }) (v := ?_) rfl (by kernel_rfl) (by kernel_rfl) (by kernel_rfl) (fun _ _ _ h => h) (Or.inl ⟨by rfl, ?_⟩) hHeld ?_
            rotate_left
            · intro w hSw; (try dsimp only at hSw); go_simp; with_reducible rfl
            try simp only [Act.put, List.setIfInBounds_toArray, List.set_cons_zero, List.set_cons_succ, ka2, ka3, u5, u6]
            refine wpAnyH_done (by kernel_rfl) ?_ _
            have hb1' := (Below.refl w0.heap.size w0).drew.trans hb1
            have d4 := (hb1'.cell (p := ⟨w.heap.size, 4, none⟩) (by show w.heap.size < _; omega)).trans f4
            have HB1 := Lib.hid (HB0.out.trans (hb1'.mono (by omega)))
            have s1 := hb1'.size
            clear hb1 hb1'
            by_cases hz : z = (S.size : Int)
            · have hp := HB4.out.1 hz
              have HP := Lib.hid hp
              have t1 : (z != (S.size : Int)) = false := by rw [bne_eq_false_iff_eq]; exact hz
              clear hz hp
              simp only [t1]
              go_wp2_with fail
              go_loopw [3, 4] (fun i _ wr => i = .int .i64 0 ∧ Below (w.heap.size + 1) w1 wr) (fun _ _ _ => 0)
              case atStart => exact ⟨rfl, (Below.refl w1.heap.size w1).mono (by omega)⟩
              case round =>
                obtain ⟨rfl, hbr⟩ := hrel
                have e4 := (hbr.cell (p := ⟨w.heap.size, 4, none⟩) (by show w.heap.size < _; omega)).trans d4
                have HBR := Lib.hid (HB1.out.trans (hbr.mono (by omega)))
                clear hbr
                go_wp2_with fail
                go_ret
                exact ⟨⟨true, rfl, ⟨fun _ => HI.out.2 ⟨HK.out, HNO.out, HNUM.out, HP.out, HEM.out⟩, fun _ => rfl⟩⟩, HBR.out⟩
            · have t1 : (z != (S.size : Int)) = true := by rw [bne_iff_ne]; exact hz
              have HZ := Lib.hid hz; clear hz
              go_wp2_with fail
              go_ret
              exact ⟨⟨false, rfl, ⟨fun h => (by cases h), fun h => absurd (HB4.out.2 (HI.out.1 h).2.2.2.1) HZ.out⟩⟩, HB1.out⟩
      · have ka2 : (k == 2) = false := by rw [beq_eq_false_iff_ne]; omega
        have kb2 : (k != 2) = true := by rw [bne_iff_ne]; omega
        have ka3 : (k == 3) = false := by rw [beq_eq_false_iff_ne]; omega
        have kb3 : (k != 3) = true := by rw [bne_iff_ne]; omega
        have ka4 : (k == 4) = true := by rw [beq_iff_eq]; exact e
        have kb4 : (k != 4) = false := by rw [bne_eq_false_iff_eq]; exact e
        have ka5 : (k == 5) = false := by rw [beq_eq_false_iff_ne]; omega
        have kb5 : (k != 5) = true := by rw [bne_iff_ne]; omega
        have ka6 : (k == 6) = false := by rw [beq_eq_false_iff_ne]; omega
        have kb6 : (k != 6) = true := by rw [bne_iff_ne]; omega
        have kc1 : decide (k < 1) = false := decide_eq_false (by omega)
        have kc2 : decide (6 < k) = false := decide_eq_false (by omega)
        have ha0 : a = 0 := Classical.byContradiction fun x => hno (.inr (.inr (.inl ⟨x, by omega⟩)))
        have hm0 : lm = 0 := Classical.byContradiction fun x => hno (.inr (.inr (.inr ⟨x, by omega⟩)))
        have HEM := Lib.hid (HNIL.out hm0)
        have HNO := Lib.hid hno
        have hn0 : n = 0 := Classical.byContradiction fun x => hno (.inl ⟨x, by omega, by omega⟩)
        have u5 : (n != 0) = false := by rw [bne_eq_false_iff_eq]; exact hn0
        have hnum : (k = 2 → n = 0 ∨ n = 1) ∧ (k = 3 → -9007199254740991 ≤ n ∧ n ≤ 9007199254740991) := ⟨fun h => absurd h (by omega), fun h => absurd h (by omega)⟩
        have HNUM := Lib.hid hnum; clear hnum
        clear hn0
        subst ha0
        subst hm0
        have HK := Lib.hid hk
        clear hno hk e
        go_enter Tryd.func25, Tryd.ntmps25
        go_wp2_with fail
        rw [← HW0.out]
        refine wp_region_held_drew (S := (fun w' => w'.cell? ⟨w.heap.size, 0, none⟩ = some (.int .i64 k) ∧ w'.cell? ⟨w.heap.size, 1, none⟩ = some (.int .i64 n) ∧ w'.cell? ⟨w.heap.size, 2, none⟩ = some (.string S))) (by kernel_rfl) (by go_keep) (fun hHeld => ?_)
        refine wpAnyH_take (i := 0) (oi := { dst := some 58, op := Op.fieldAddr 25 (Operand.tmp 1) 0, type := 0, pos := "ref.go:19", after := #[], guard := none }) (v := ?_) rfl (by kernel_rfl) (by kernel_rfl) (by kernel_rfl) (fun _ _ _ h => h) (Or.inl ⟨by rfl, ?_⟩) hHeld ?_
        rotate_left
        · intro w hSw; (try dsimp only at hSw); go_simp; with_reducible rfl
        try simp only [Act.put, List.setIfInBounds_toArray, List.set_cons_zero, List.set_cons_succ, ka2, ka3, u5]
        refine wpAnyH_take (i := 1) (oi := { dst := some 59, op := Op.load 3 (Operand.tmp 58), type := 3, pos := "ref.go:19", after := #[{ on := 0, ground := Ground.data }], guard := none }) (v := ?_) rfl (by kernel_rfl) (by kernel_rfl) (by kernel_rfl) (fun _ _ _ h => h) (Or.inl ⟨by rfl, ?_⟩) hHeld ?_
        rotate_left
        · intro w hSw; (try dsimp only at hSw); go_simp; with_reducible rfl
        try simp only [Act.put, List.setIfInBounds_toArray, List.set_cons_zero, List.set_cons_succ, ka2, ka3, u5]
        refine wpAnyH_take (i := 2) (oi := { dst := some 60, op := Op.binOp BinOp.eql 3 (Operand.tmp 59) (Operand.const (Value.int IntKind.i64 2)) 3, type := 4, pos := "ref.go:19", after := #[{ on := 1, ground := Ground.data }], guard := none }) (v := ?_) rfl (by kernel_rfl) (by kernel_rfl) (by kernel_rfl) (fun _ _ _ h => h) (Or.inl ⟨by rfl, ?_⟩) hHeld ?_
        rotate_left
        · intro w hSw; (try dsimp only at hSw); go_simp; with_reducible rfl
        try simp only [Act.put, List.setIfInBounds_toArray, List.set_cons_zero, List.set_cons_succ, ka2, ka3, u5]
        refine wpAnyH_take (i := 3) (oi := { dst := some 61, op := Op.move (Operand.tmp 60), type := 4, pos := "ref.go:19", after := #[{ on := 2, ground := Ground.data }], guard := none }) (v := ?_) rfl (by kernel_rfl) (by kernel_rfl) (by kernel_rfl) (fun _ _ _ h => h) (Or.inl ⟨by rfl, ?_⟩) hHeld ?_
        rotate_left
        · intro w hSw; (try dsimp only at hSw); go_simp; with_reducible rfl
        try simp only [Act.put, List.setIfInBounds_toArray, List.set_cons_zero, List.set_cons_succ, ka2, ka3, u5]
        refine wpAnyH_take (i := 4) (oi := { dst := some 62, op := Op.fieldAddr 25 (Operand.tmp 1) 1, type := 0, pos := "ref.go:19", after := #[{ on := 3, ground := Ground.guard }], guard := some (3, true) }) (v := undef) rfl (by kernel_rfl) (by kernel_rfl) (by kernel_rfl) (fun _ _ _ h => h) (Or.inr ⟨by rfl, rfl⟩) hHeld ?_
        try simp only [Act.put, List.setIfInBounds_toArray, List.set_cons_zero, List.set_cons_succ, ka2, ka3, u5]
        refine wpAnyH_take (i := 5) (oi := { dst := some 63, op := Op.load 2 (Operand.tmp 62), type := 2, pos := "ref.go:19", after := #[{ on := 4, ground := Ground.data }, { on := 3, ground := Ground.guard }], guard := some (3, true) }) (v := undef) rfl (by kernel_rfl) (by kernel_rfl) (by kernel_rfl) (fun _ _ _ h => h) (Or.inr ⟨by rfl, rfl⟩) hHeld ?_
        try simp only [Act.put, List.setIfInBounds_toArray, List.set_cons_zero, List.set_cons_succ, ka2, ka3, u5]
        refine wpAnyH_take (i := 6) (oi := { dst := some 64, op := Op.binOp BinOp.neq 2 (Operand.tmp 63) (Operand.const (Value.int IntKind.i64 0)) 2, type := 4, pos := "ref.go:19", after := #[{ on := 5, ground := Ground.data }, { on := 3, ground := Ground.guard }], guard := some (3, true) }) (v := undef) rfl (by kernel_rfl) (by kernel_rfl) (by kernel_rfl) (fun _ _ _ h => h) (Or.inr ⟨by rfl, rfl⟩) hHeld ?_
        try simp only [Act.put, List.setIfInBounds_toArray, List.set_cons_zero, List.set_cons_succ, ka2, ka3, u5]
        refine wpAnyH_take (i := 7) (oi := { dst := some 65, op := Op.pick (Operand.tmp 61) (Operand.tmp 64) (Operand.const (Value.bool false)), type := 4, pos := "ref.go:19", after := #[{ on := 3, ground := Ground.data }, { on := 6, ground := Ground.data }], guard := none }) (v := ?_) rfl (by kernel_rfl) (by kernel_rfl) (by kernel_rfl) (fun _ _ _ h => h) (Or.inl ⟨by rfl, ?_⟩) hHeld ?_
        rotate_left
        · intro w hSw; (try dsimp only at hSw); go_simp; with_reducible rfl
        try simp only [Act.put, List.setIfInBounds_toArray, List.set_cons_zero, List.set_cons_succ, ka2, ka3, u5]
        refine wpAnyH_take (i := 8) (oi := { dst := some 66, op := Op.move (Operand.tmp 65), type := 4, pos := "ref.go:19", after := #[{ on := 7, ground := Ground.data }, { on := 3, ground := Ground.chain }], guard := none }) (v := ?_) rfl (by kernel_rfl) (by kernel_rfl) (by kernel_rfl) (fun _ _ _ h => h) (Or.inl ⟨by rfl, ?_⟩) hHeld ?_
        rotate_left
        · intro w hSw; (try dsimp only at hSw); go_simp; with_reducible rfl
        try simp only [Act.put, List.setIfInBounds_toArray, List.set_cons_zero, List.set_cons_succ, ka2, ka3, u5]
        refine wpAnyH_take (i := 9) (oi := { dst := some 67, op := Op.fieldAddr 25 (Operand.tmp 1) 1, type := 0, pos := "ref.go:19", after := #[{ on := 8, ground := Ground.guard }], guard := some (8, true) }) (v := undef) rfl (by kernel_rfl) (by kernel_rfl) (by kernel_rfl) (fun _ _ _ h => h) (Or.inr ⟨by rfl, rfl⟩) hHeld ?_
        try simp only [Act.put, List.setIfInBounds_toArray, List.set_cons_zero, List.set_cons_succ, ka2, ka3, u5]
        refine wpAnyH_take (i := 10) (oi := { dst := some 68, op := Op.load 2 (Operand.tmp 67), type := 2, pos := "ref.go:19", after := #[{ on := 9, ground := Ground.data }, { on := 8, ground := Ground.guard }], guard := some (8, true) }) (v := undef) rfl (by kernel_rfl) (by kernel_rfl) (by kernel_rfl) (fun _ _ _ h => h) (Or.inr ⟨by rfl, rfl⟩) hHeld ?_
        try simp only [Act.put, List.setIfInBounds_toArray, List.set_cons_zero, List.set_cons_succ, ka2, ka3, u5]
        refine wpAnyH_take (i := 11) (oi := { dst := some 69, op := Op.binOp BinOp.neq 2 (Operand.tmp 68) (Operand.const (Value.int IntKind.i64 1)) 2, type := 4, pos := "ref.go:19", after := #[{ on := 10, ground := Ground.data }, { on := 8, ground := Ground.guard }], guard := some (8, true) }) (v := undef) rfl (by kernel_rfl) (by kernel_rfl) (by kernel_rfl) (fun _ _ _ h => h) (Or.inr ⟨by rfl, rfl⟩) hHeld ?_
        try simp only [Act.put, List.setIfInBounds_toArray, List.set_cons_zero, List.set_cons_succ, ka2, ka3, u5]
        refine wpAnyH_take (i := 12) (oi := { dst := some 70, op := Op.pick (Operand.tmp 66) (Operand.tmp 69) (Operand.const (Value.bool false)), type := 4, pos := "ref.go:19", after := #[{ on := 8, ground := Ground.data }, { on := 11, ground := Ground.data }], guard := none }) (v := ?_) rfl (by kernel_rfl) (by kernel_rfl) (by kernel_rfl) (fun _ _ _ h => h) (Or.inl ⟨by rfl, ?_⟩) hHeld ?_
        rotate_left
        · intro w hSw; (try dsimp only at hSw); go_simp; with_reducible rfl
        try simp only [Act.put, List.setIfInBounds_toArray, List.set_cons_zero, List.set_cons_succ, ka2, ka3, u5]
        refine wpAnyH_take (i := 13) (oi := { dst := some 71, op := Op.move (Operand.tmp 70), type := 4, pos := "ref.go:19", after := #[{ on := 12, ground := Ground.data }, { on := 8, ground := Ground.chain }], guard := none }) (v := ?_) rfl (by kernel_rfl) (by kernel_rfl) (by kernel_rfl) (fun _ _ _ h => h) (Or.inl ⟨by rfl, ?_⟩) hHeld ?_
        rotate_left
        · intro w hSw; (try dsimp only at hSw); go_simp; with_reducible rfl
        try simp only [Act.put, List.setIfInBounds_toArray, List.set_cons_zero, List.set_cons_succ, ka2, ka3, u5]
        refine wpAnyH_take (i := 14) (oi := { dst := some 72, op := Op.fieldAddr 25 (Operand.tmp 1) 0, type := 0, pos := "ref.go:19", after := #[{ on := 13, ground := Ground.guard }], guard := some (13, false) }) (v := ?_) rfl (by kernel_rfl) (by kernel_rfl) (by kernel_rfl) (fun _ _ _ h => h) (Or.inl ⟨by rfl, ?_⟩) hHeld ?_
        rotate_left
        · intro w hSw; (try dsimp only at hSw); go_simp; with_reducible rfl
        try simp only [Act.put, List.setIfInBounds_toArray, List.set_cons_zero, List.set_cons_succ, ka2, ka3, u5]
        refine wpAnyH_take (i := 15) (oi := { dst := some 73, op := Op.load 3 (Operand.tmp 72), type := 3, pos := "ref.go:19", after := #[{ on := 14, ground := Ground.data }, { on := 13, ground := Ground.guard }], guard := some (13, false) }) (v := ?_) rfl (by kernel_rfl) (by kernel_rfl) (by kernel_rfl) (fun _ _ _ h => h) (Or.inl ⟨by rfl, ?_⟩) hHeld ?_
        rotate_left
        · intro w hSw; (try dsimp only at hSw); go_simp; with_reducible rfl
        try simp only [Act.put, List.setIfInBounds_toArray, List.set_cons_zero, List.set_cons_succ, ka2, ka3, u5]
        refine wpAnyH_take (i := 16) (oi := { dst := some 74, op := Op.binOp BinOp.eql 3 (Operand.tmp 73) (Operand.const (Value.int IntKind.i64 3)) 3, type := 4, pos := "ref.go:19", after := #[{ on := 15, ground := Ground.data }, { on := 13, ground := Ground.guard }], guard := some (13, false) }) (v := ?_) rfl (by kernel_rfl) (by kernel_rfl) (by kernel_rfl) (fun _ _ _ h => h) (Or.inl ⟨by rfl, ?_⟩) hHeld ?_
        rotate_left
        · intro w hSw; (try dsimp only at hSw); go_simp; with_reducible rfl
        try simp only [Act.put, List.setIfInBounds_toArray, List.set_cons_zero, List.set_cons_succ, ka2, ka3, u5]
        refine wpAnyH_take (i := 17) (oi := { dst := some 75, op := Op.move (Operand.tmp 74), type := 4, pos := "ref.go:19", after := #[{ on := 16, ground := Ground.data }, { on := 13, ground := Ground.chain }, { on := 13, ground := Ground.guard }], guard := some (13, false) }) (v := ?_) rfl (by kernel_rfl) (by kernel_rfl) (by kernel_rfl) (fun _ _ _ h => h) (Or.inl ⟨by rfl, ?_⟩) hHeld ?_
        rotate_left
        · intro w hSw; (try dsimp only at hSw); go_simp; with_reducible rfl
        try simp only [Act.put, List.setIfInBounds_toArray, List.set_cons_zero, List.set_cons_succ, ka2, ka3, u5]
        refine wpAnyH_take (i := 18) (oi := { dst := some 76, op := Op.fieldAddr 25 (Operand.tmp 1) 1, type := 0, pos := "ref.go:19", after := #[{ on := 17, ground := Ground.guard }], guard := some (17, true) }) (v := undef) rfl (by kernel_rfl) (by kernel_rfl) (by kernel_rfl) (fun _ _ _ h => h) (Or.inr ⟨by rfl, rfl⟩) hHeld ?_
        try simp only [Act.put, List.setIfInBounds_toArray, List.set_cons_zero, List.set_cons_succ, ka2, ka3, u5]
        refine wpAnyH_take (i := 19) (oi := { dst := some 77, op := Op.load 2 (Operand.tmp 76), type := 2, pos := "ref.go:19", after := #[{ on := 18, ground := Ground.data }, { on := 17, ground := Ground.guard }], guard := some (17, true) }) (v := undef) rfl (by kernel_rfl) (by kernel_rfl) (by kernel_rfl) (fun _ _ _ h => h) (Or.inr ⟨by rfl, rfl⟩) hHeld ?_
        try simp only [Act.put, List.setIfInBounds_toArray, List.set_cons_zero, List.set_cons_succ, ka2, ka3, u5]
        refine wpAnyH_take (i := 20) (oi := { dst := some 78, op := Op.binOp BinOp.lss 2 (Operand.tmp 77) (Operand.const (Value.int IntKind.i64 (-9007199254740991))) 2, type := 4, pos := "ref.go:19", after := #[{ on := 19, ground := Ground.data }, { on := 17, ground := Ground.guard }], guard := some (17, true) }) (v := undef) rfl (by kernel_rfl) (by kernel_rfl) (by kernel_rfl) (fun _ _ _ h => h) (Or.inr ⟨by rfl, rfl⟩) hHeld ?_
        try simp only [Act.put, List.setIfInBounds_toArray, List.set_cons_zero, List.set_cons_succ, ka2, ka3, u5]
        refine wpAnyH_take (i := 21) (oi := { dst := some 79, op := Op.move (Operand.tmp 78), type := 4, pos := "ref.go:19", after := #[{ on := 20, ground := Ground.data }, { on := 17, ground := Ground.chain }, { on := 17, ground := Ground.guard }], guard := some (17, true) }) (v := undef) rfl (by kernel_rfl) (by kernel_rfl) (by kernel_rfl) (fun _ _ _ h => h) (Or.inr ⟨by rfl, rfl⟩) hHeld ?_
        try simp only [Act.put, List.setIfInBounds_toArray, List.set_cons_zero, List.set_cons_succ, ka2, ka3, u5]
        refine wpAnyH_take (i := 22) (oi := { dst := some 80, op := Op.fieldAddr 25 (Operand.tmp 1) 1, type := 0, pos := "ref.go:19", after := #[{ on := 21, ground := Ground.guard }], guard := some (21, false) }) (v := undef) rfl (by kernel_rfl) (by kernel_rfl) (by kernel_rfl) (fun _ _ _ h => h) (Or.inr ⟨by rfl, rfl⟩) hHeld ?_
        try simp only [Act.put, List.setIfInBounds_toArray, List.set_cons_zero, List.set_cons_succ, ka2, ka3, u5]
        refine wpAnyH_take (i := 23) (oi := { dst := some 81, op := Op.load 2 (Operand.tmp 80), type := 2, pos := "ref.go:19", after := #[{ on := 22, ground := Ground.data }, { on := 21, ground := Ground.guard }], guard := some (21, false) }) (v := undef) rfl (by kernel_rfl) (by kernel_rfl) (by kernel_rfl) (fun _ _ _ h => h) (Or.inr ⟨by rfl, rfl⟩) hHeld ?_
        try simp only [Act.put, List.setIfInBounds_toArray, List.set_cons_zero, List.set_cons_succ, ka2, ka3, u5]
        refine wpAnyH_take (i := 24) (oi := { dst := some 82, op := Op.binOp BinOp.gtr 2 (Operand.tmp 81) (Operand.const (Value.int IntKind.i64 9007199254740991)) 2, type := 4, pos := "ref.go:19", after := #[{ on := 23, ground := Ground.data }, { on := 21, ground := Ground.guard }], guard := some (21, false) }) (v := undef) rfl (by kernel_rfl) (by kernel_rfl) (by kernel_rfl) (fun _ _ _ h => h) (Or.inr ⟨by rfl, rfl⟩) hHeld ?_
        try simp only [Act.put, List.setIfInBounds_toArray, List.set_cons_zero, List.set_cons_succ, ka2, ka3, u5]
        refine wpAnyH_take (i := 25) (oi := { dst := some 83, op := Op.pick (Operand.tmp 79) (Operand.const (Value.bool true)) (Operand.tmp 82), type := 4, pos := "ref.go:19", after := #[{ on := 21, ground := Ground.data }, { on := 24, ground := Ground.data }, { on := 17, ground := Ground.guard }], guard := some (17, true) }) (v := undef) rfl (by kernel_rfl) (by kernel_rfl) (by kernel_rfl) (fun _ _ _ h => h) (Or.inr ⟨by rfl, rfl⟩) hHeld ?_
        try simp only [Act.put, List.setIfInBounds_toArray, List.set_cons_zero, List.set_cons_succ, ka2, ka3, u5]
        refine wpAnyH_take (i := 26) (oi := { dst := some 84, op := Op.pick (Operand.tmp 75) (Operand.tmp 83) (Operand.const (Value.bool false)), type := 4, pos := "ref.go:19", after := #[{ on := 17, ground := Ground.data }, { on := 25, ground := Ground.data }, { on := 13, ground := Ground.guard }], guard := some (13, false) }) (v := ?_) rfl (by kernel_rfl) (by kernel_rfl) (by kernel_rfl) (fun _ _ _ h => h) (Or.inl ⟨by rfl, ?_⟩) hHeld ?_
        rotate_left
        · intro w hSw; (try dsimp only at hSw); go_simp; with_reducible rfl
        try simp only [Act.put, List.setIfInBounds_toArray, List.set_cons_zero, List.set_cons_succ, ka2, ka3, u5]
        refine wpAnyH_take (i := 27) (oi := { dst := some 85, op := Op.pick (Operand.tmp 71) (Operand.const (Value.bool true)) (Operand.tmp 84), type := 4, pos := "ref.go:19", after := #[{ on := 13, ground := Ground.data }, { on := 26, ground := Ground.data }], guard := none }) (v := ?_) rfl (by kernel_rfl) (by kernel_rfl) (by kernel_rfl) (fun _ _ _ h => h) (Or.inl ⟨by rfl, ?_⟩) hHeld ?_
        rotate_left
        · intro w hSw; (try dsimp only at hSw); go_simp; with_reducible rfl
        try simp only [Act.put, List.setIfInBounds_toArray, List.set_cons_zero, List.set_cons_succ, ka2, ka3, u5]
        refine wpAnyH_take (i := 28) (oi := { dst := some 86, op := Op.move (Operand.tmp 85), type := 4, pos := "ref.go:19", after := #[{ on := 27, ground := Ground.data }, { on := 21, ground := Ground.chain }], guard := none }) (v := ?_) rfl (by kernel_rfl) (by kernel_rfl) (by kernel_rfl) (fun _ _ _ h => h) (Or.inl ⟨by rfl, ?_⟩) hHeld ?_
        rotate_left
        · intro w hSw; (try dsimp only at hSw); go_simp; with_reducible rfl
        try simp only [Act.put, List.setIfInBounds_toArray, List.set_cons_zero, List.set_cons_succ, ka2, ka3, u5]
        refine wpAnyH_take (i := 29) (oi := { dst := some 87, op := Op.fieldAddr 25 (Operand.tmp 1) 2, type := 0, pos := "ref.go:19", after := #[{ on := 28, ground := Ground.guard }], guard := some (28, false) }) (v := ?_) rfl (by kernel_rfl) (by kernel_rfl) (by kernel_rfl) (fun _ _ _ h => h) (Or.inl ⟨by rfl, ?_⟩) hHeld ?_
        rotate_left
        · intro w hSw; (try dsimp only at hSw); go_simp; with_reducible rfl
        try simp only [Act.put, List.setIfInBounds_toArray, List.set_cons_zero, List.set_cons_succ, ka2, ka3, u5]
        refine wpAnyH_take (i := 30) (oi := { dst := some 88, op := Op.load 9 (Operand.tmp 87), type := 9, pos := "ref.go:19", after := #[{ on := 29, ground := Ground.data }, { on := 28, ground := Ground.guard }], guard := some (28, false) }) (v := ?_) rfl (by kernel_rfl) (by kernel_rfl) (by kernel_rfl) (fun _ _ _ h => h) (Or.inl ⟨by rfl, ?_⟩) hHeld ?_
        rotate_left
        · intro w hSw; (try dsimp only at hSw); go_simp; with_reducible rfl
        try simp only [Act.put, List.setIfInBounds_toArray, List.set_cons_zero, List.set_cons_succ, ka2, ka3, u5]
        refine wpAnyH_take (i := 32) (oi := { dst := some 90, op := Op.fieldAddr 25 (Operand.tmp 1) 2, type := 0, pos := "ref.go:19", after := #[{ on := 28, ground := Ground.guard }], guard := some (28, false) }) (v := ?_) rfl (by kernel_rfl) (by kernel_rfl) (by kernel_rfl) (fun _ _ _ h => h) (Or.inl ⟨by rfl, ?_⟩) hHeld ?_
        rotate_left
        · intro w hSw; (try dsimp only at hSw); go_simp; with_reducible rfl
        try simp only [Act.put, List.setIfInBounds_toArray, List.set_cons_zero, List.set_cons_succ, ka2, ka3, u5]
        refine wpAnyH_take (i := 33) (oi := { dst := some 91, op := Op.load 9 (Operand.tmp 90), type := 9, pos := "ref.go:19", after := #[{ on := 32, ground := Ground.data }, { on := 28, ground := Ground.guard }], guard := some (28, false) }) (v := ?_) rfl (by kernel_rfl) (by kernel_rfl) (by kernel_rfl) (fun _ _ _ h => h) (Or.inl ⟨by rfl, ?_⟩) hHeld ?_
        rotate_left
        · intro w hSw; (try dsimp only at hSw); go_simp; with_reducible rfl
        try simp only [Act.put, List.setIfInBounds_toArray, List.set_cons_zero, List.set_cons_succ, ka2, ka3, u5]
        refine wpAnyH_take (i := 34) (oi := { dst := some 92, op := Op.call { callee := Callee.builtin Builtin.len, args := #[Operand.tmp 91], argTypes := #[9] }, type := 3, pos := "ref.go:19", after := #[{ on := 33, ground := Ground.data }, { on := 28, ground := Ground.guard }], guard := some (28, false) }) (v := ?_) rfl (by kernel_rfl) (by kernel_rfl) (by kernel_rfl) (fun _ _ _ h => h) (Or.inl ⟨by rfl, ?_⟩) hHeld ?_
        rotate_left
        · intro w hSw; (try dsimp only at hSw); go_simp; with_reducible rfl
        try simp only [Act.put, List.setIfInBounds_toArray, List.set_cons_zero, List.set_cons_succ, ka2, ka3, u5]
        refine wpAnyH_ready (rs := [31]) (by kernel_rfl) (by simp) ?_
        refine AllReadyH.cons (o := { dst := some 89, op := Op.call { callee := Callee.value (Operand.func 35), args := #[Operand.tmp 88], argTypes := #[9] }, type := 3, pos := "ref.go:19", after := #[{ on := 30, ground := Ground.data }, { on := 28, ground := Ground.chain }, { on := 28, ground := Ground.guard }], guard := some (28, false) }) rfl (fun K hK => ?_) AllReadyH.nil
        go_simp
        refine (HB.out _).mono ?_
        rintro e w1 ⟨rfl, hb1⟩
        refine hK.out _ _ ⟨(hb1.cell (p := ⟨w.heap.size, 0, none⟩) (by show w.heap.size < w0.heap.size; omega)).trans f0, (hb1.cell (p := ⟨w.heap.size, 1, none⟩) (by show w.heap.size < w0.heap.size; omega)).trans f1, (hb1.cell (p := ⟨w.heap.size, 2, none⟩) (by show w.heap.size < w0.heap.size; omega)).trans f2⟩ (fun hHeld => ?_)
        clear hK K
        try simp only [Act.put, List.setIfInBounds_toArray, List.set_cons_zero, List.set_cons_succ, ka2, ka3, u5]
        refine wpAnyH_take (i := 35) (oi := { dst := some 93, op := Op.binOp BinOp.neq 3 (Operand.tmp 89) (Operand.tmp 92) 3, type := 4, pos := "ref.go:19", after := #[{ on := 31, ground := Ground.data }, { on := 34, ground := Ground.data }, { on := 28, ground := Ground.guard }], guard := some (28, false) }) (v := ?_) rfl (by kernel_rfl) (by kernel_rfl) (by kernel_rfl) (fun _ _ _ h => h) (Or.inl ⟨by rfl, ?_⟩) hHeld ?_
        rotate_left
        · intro w hSw; (try dsimp only at hSw); go_simp; with_reducible rfl
        try simp only [Act.put, List.setIfInBounds_toArray, List.set_cons_zero, List.set_cons_succ, ka2, ka3, u5]
        refine wpAnyH_take (i := 36) (oi := { dst := some 94, op := Op.pick (Operand.tmp 86) (Operand.const (Value.bool true)) (Operand.tmp 93), type := 4, pos := "ref.go:19", after := #[{ on := 28, ground := Ground.data }, { on := 35, ground := Ground.data }], guard := none }) (v := ?_) rfl (by kernel_rfl) (by kernel_rfl) (by kernel_rfl) (fun _ _ _ h => h) (Or.inl ⟨by rfl, ?_⟩) hHeld ?_
        rotate_left
        · intro w hSw; (try dsimp only at hSw); go_simp; with_reducible rfl
        try simp only [Act.put, List.setIfInBounds_toArray, List.set_cons_zero, List.set_cons_succ, ka2, ka3, u5]
        refine wpAnyH_done (by kernel_rfl) ?_ _
        have hb1' := (Below.refl w0.heap.size w0).drew.trans hb1
        have d4 := (hb1'.cell (p := ⟨w.heap.size, 4, none⟩) (by show w.heap.size < _; omega)).trans f4
        have HB1 := Lib.hid (HB0.out.trans (hb1'.mono (by omega)))
        have s1 := hb1'.size
        clear hb1 hb1'
        by_cases hz : z = (S.size : Int)
        · have hp := HB4.out.1 hz
          have HP := Lib.hid hp
          have t1 : (z != (S.size : Int)) = false := by rw [bne_eq_false_iff_eq]; exact hz
          clear hz hp
          simp only [t1]
          go_wp2_with fail
          go_loopw [3, 4] (fun i _ wr => i = .int .i64 0 ∧ Below (w.heap.size + 1) w1 wr) (fun _ _ _ => 0)
          case atStart => exact ⟨rfl, (Below.refl w1.heap.size w1).mono (by omega)⟩
          case round =>
            obtain ⟨rfl, hbr⟩ := hrel
            have e4 := (hbr.cell (p := ⟨w.heap.size, 4, none⟩) (by show w.heap.size < _; omega)).trans d4
            have HBR := Lib.hid (HB1.out.trans (hbr.mono (by omega)))
            clear hbr
            go_wp2_with fail
            go_ret
            exact ⟨⟨true, rfl, ⟨fun _ => HI.out.2 ⟨HK.out, HNO.out, HNUM.out, HP.out, HEM.out⟩, fun _ => rfl⟩⟩, HBR.out⟩
        · have t1 : (z != (S.size : Int)) = true := by rw [bne_iff_ne]; exact hz
          have HZ := Lib.hid hz; clear hz
          go_wp2_with fail
          go_ret
          exact ⟨⟨false, rfl, ⟨fun h => (by cases h), fun h => absurd (HB4.out.2 (HI.out.1 h).2.2.2.1) HZ.out⟩⟩, HB1.out⟩
      · have ka2 : (k == 2) = false := by rw [beq_eq_false_iff_ne]; omega
        have kb2 : (k != 2) = true := by rw [bne_iff_ne]; omega
        have ka3 : (k == 3) = false := by rw [beq_eq_false_iff_ne]; omega
        have kb3 : (k != 3) = true := by rw [bne_iff_ne]; omega
        have ka4 : (k == 4) = false := by rw [beq_eq_false_iff_ne]; omega
        have kb4 : (k != 4) = true := by rw [bne_iff_ne]; omega
        have ka5 : (k == 5) = true := by rw [beq_iff_eq]; exact e
        have kb5 : (k != 5) = false := by rw [bne_eq_false_iff_eq]; exact e
        have ka6 : (k == 6) = false := by rw [beq_eq_false_iff_ne]; omega
        have kb6 : (k != 6) = true := by rw [bne_iff_ne]; omega
        have kc1 : decide (k < 1) = false := decide_eq_false (by omega)
        have kc2 : decide (6 < k) = false := decide_eq_false (by omega)
        have hS0 : S.toList = [] := Classical.byContradiction fun x => hno (.inr (.inl ⟨x, by omega⟩))
        have hS1 : (S.toList != []) = false := by rw [hS0]; rfl
        have hm0 : lm = 0 := Classical.byContradiction fun x => hno (.inr (.inr (.inr ⟨x, by omega⟩)))
        have HEM := Lib.hid (HNIL.out hm0)
        have HNO := Lib.hid hno
        have hn0 : n = 0 := Classical.byContradiction fun x => hno (.inl ⟨x, by omega, by omega⟩)
        have u5 : (n != 0) = false := by rw [bne_eq_false_iff_eq]; exact hn0
        have hnum : (k = 2 → n = 0 ∨ n = 1) ∧ (k = 3 → -9007199254740991 ≤ n ∧ n ≤ 9007199254740991) := ⟨fun h => absurd h (by omega), fun h => absurd h (by omega)⟩
        have HNUM := Lib.hid hnum; clear hnum
        clear hn0
        subst hm0
        have HK := Lib.hid hk
        clear hno hk e
        go_enter Tryd.func25, Tryd.ntmps25
        go_wp2_with fail
        rw [← HW0.out]
        refine wp_region_held_drew (S := (fun w' => w'.cell? ⟨w.heap.size, 0, none⟩ = some (.int .i64 k) ∧ w'.cell? ⟨w.heap.size, 1, none⟩ = some (.int .i64 n) ∧ w'.cell? ⟨w.heap.size, 2, none⟩ = some (.string S))) (by kernel_rfl) (by go_keep) (fun hHeld => ?_)
        refine wpAnyH_take (i := 0) (oi := { dst := some 58, op := Op.fieldAddr 25 (Operand.tmp 1) 0, type := 0, pos := "ref.go:19", after := #[], guard := none }) (v := ?_) rfl (by kernel_rfl) (by kernel_rfl) (by kernel_rfl) (fun _ _ _ h => h) (Or.inl ⟨by rfl, ?_⟩) hHeld ?_
        rotate_left
        · intro w hSw; (try dsimp only at hSw); go_simp; with_reducible rfl
        try simp only [Act.put, List.setIfInBounds_toArray, List.set_cons_zero, List.set_cons_succ, ka2, ka3, u5]
        refine wpAnyH_take (i := 1) (oi := { dst := some 59, op := Op.load 3 (Operand.tmp 58), type := 3, pos := "ref.go:19", after := #[{ on := 0, ground := Ground.data }], guard := none }) (v := ?_) rfl (by kernel_rfl) (by kernel_rfl) (by kernel_rfl) (fun _ _ _ h => h) (Or.inl ⟨by rfl, ?_⟩) hHeld ?_
        rotate_left
        · intro w hSw; (try dsimp only at hSw); go_simp; with_reducible rfl
        try simp only [Act.put, List.setIfInBounds_toArray, List.set_cons_zero, List.set_cons_succ, ka2, ka3, u5]
        refine wpAnyH_take (i := 2) (oi := { dst := some 60, op := Op.binOp BinOp.eql 3 (Operand.tmp 59) (Operand.const (Value.int IntKind.i64 2)) 3, type := 4, pos := "ref.go:19", after := #[{ on := 1, ground := Ground.data }], guard := none }) (v := ?_) rfl (by kernel_rfl) (by kernel_rfl) (by kernel_rfl) (fun _ _ _ h => h) (Or.inl ⟨by rfl, ?_⟩) hHeld ?_
        rotate_left
        · intro w hSw; (try dsimp only at hSw); go_simp; with_reducible rfl
        try simp only [Act.put, List.setIfInBounds_toArray, List.set_cons_zero, List.set_cons_succ, ka2, ka3, u5]
        refine wpAnyH_take (i := 3) (oi := { dst := some 61, op := Op.move (Operand.tmp 60), type := 4, pos := "ref.go:19", after := #[{ on := 2, ground := Ground.data }], guard := none }) (v := ?_) rfl (by kernel_rfl) (by kernel_rfl) (by kernel_rfl) (fun _ _ _ h => h) (Or.inl ⟨by rfl, ?_⟩) hHeld ?_
        rotate_left
        · intro w hSw; (try dsimp only at hSw); go_simp; with_reducible rfl
        try simp only [Act.put, List.setIfInBounds_toArray, List.set_cons_zero, List.set_cons_succ, ka2, ka3, u5]
        refine wpAnyH_take (i := 4) (oi := { dst := some 62, op := Op.fieldAddr 25 (Operand.tmp 1) 1, type := 0, pos := "ref.go:19", after := #[{ on := 3, ground := Ground.guard }], guard := some (3, true) }) (v := undef) rfl (by kernel_rfl) (by kernel_rfl) (by kernel_rfl) (fun _ _ _ h => h) (Or.inr ⟨by rfl, rfl⟩) hHeld ?_
        try simp only [Act.put, List.setIfInBounds_toArray, List.set_cons_zero, List.set_cons_succ, ka2, ka3, u5]
        refine wpAnyH_take (i := 5) (oi := { dst := some 63, op := Op.load 2 (Operand.tmp 62), type := 2, pos := "ref.go:19", after := #[{ on := 4, ground := Ground.data }, { on := 3, ground := Ground.guard }], guard := some (3, true) }) (v := undef) rfl (by kernel_rfl) (by kernel_rfl) (by kernel_rfl) (fun _ _ _ h => h) (Or.inr ⟨by rfl, rfl⟩) hHeld ?_
        try simp only [Act.put, List.setIfInBounds_toArray, List.set_cons_zero, List.set_cons_succ, ka2, ka3, u5]
        refine wpAnyH_take (i := 6) (oi := { dst := some 64, op := Op.binOp BinOp.neq 2 (Operand.tmp 63) (Operand.const (Value.int IntKind.i64 0)) 2, type := 4, pos := "ref.go:19", after := #[{ on := 5, ground := Ground.data }, { on := 3, ground := Ground.guard }], guard := some (3, true) }) (v := undef) rfl (by kernel_rfl) (by kernel_rfl) (by kernel_rfl) (fun _ _ _ h => h) (Or.inr ⟨by rfl, rfl⟩) hHeld ?_
        try simp only [Act.put, List.setIfInBounds_toArray, List.set_cons_zero, List.set_cons_succ, ka2, ka3, u5]
        refine wpAnyH_take (i := 7) (oi := { dst := some 65, op := Op.pick (Operand.tmp 61) (Operand.tmp 64) (Operand.const (Value.bool false)), type := 4, pos := "ref.go:19", after := #[{ on := 3, ground := Ground.data }, { on := 6, ground := Ground.data }], guard := none }) (v := ?_) rfl (by kernel_rfl) (by kernel_rfl) (by kernel_rfl) (fun _ _ _ h => h) (Or.inl ⟨by rfl, ?_⟩) hHeld ?_
        rotate_left
        · intro w hSw; (try dsimp only at hSw); go_simp; with_reducible rfl
        try simp only [Act.put, List.setIfInBounds_toArray, List.set_cons_zero, List.set_cons_succ, ka2, ka3, u5]
        refine wpAnyH_take (i := 8) (oi := { dst := some 66, op := Op.move (Operand.tmp 65), type := 4, pos := "ref.go:19", after := #[{ on := 7, ground := Ground.data }, { on := 3, ground := Ground.chain }], guard := none }) (v := ?_) rfl (by kernel_rfl) (by kernel_rfl) (by kernel_rfl) (fun _ _ _ h => h) (Or.inl ⟨by rfl, ?_⟩) hHeld ?_
        rotate_left
        · intro w hSw; (try dsimp only at hSw); go_simp; with_reducible rfl
        try simp only [Act.put, List.setIfInBounds_toArray, List.set_cons_zero, List.set_cons_succ, ka2, ka3, u5]
        refine wpAnyH_take (i := 9) (oi := { dst := some 67, op := Op.fieldAddr 25 (Operand.tmp 1) 1, type := 0, pos := "ref.go:19", after := #[{ on := 8, ground := Ground.guard }], guard := some (8, true) }) (v := undef) rfl (by kernel_rfl) (by kernel_rfl) (by kernel_rfl) (fun _ _ _ h => h) (Or.inr ⟨by rfl, rfl⟩) hHeld ?_
        try simp only [Act.put, List.setIfInBounds_toArray, List.set_cons_zero, List.set_cons_succ, ka2, ka3, u5]
        refine wpAnyH_take (i := 10) (oi := { dst := some 68, op := Op.load 2 (Operand.tmp 67), type := 2, pos := "ref.go:19", after := #[{ on := 9, ground := Ground.data }, { on := 8, ground := Ground.guard }], guard := some (8, true) }) (v := undef) rfl (by kernel_rfl) (by kernel_rfl) (by kernel_rfl) (fun _ _ _ h => h) (Or.inr ⟨by rfl, rfl⟩) hHeld ?_
        try simp only [Act.put, List.setIfInBounds_toArray, List.set_cons_zero, List.set_cons_succ, ka2, ka3, u5]
        refine wpAnyH_take (i := 11) (oi := { dst := some 69, op := Op.binOp BinOp.neq 2 (Operand.tmp 68) (Operand.const (Value.int IntKind.i64 1)) 2, type := 4, pos := "ref.go:19", after := #[{ on := 10, ground := Ground.data }, { on := 8, ground := Ground.guard }], guard := some (8, true) }) (v := undef) rfl (by kernel_rfl) (by kernel_rfl) (by kernel_rfl) (fun _ _ _ h => h) (Or.inr ⟨by rfl, rfl⟩) hHeld ?_
        try simp only [Act.put, List.setIfInBounds_toArray, List.set_cons_zero, List.set_cons_succ, ka2, ka3, u5]
        refine wpAnyH_take (i := 12) (oi := { dst := some 70, op := Op.pick (Operand.tmp 66) (Operand.tmp 69) (Operand.const (Value.bool false)), type := 4, pos := "ref.go:19", after := #[{ on := 8, ground := Ground.data }, { on := 11, ground := Ground.data }], guard := none }) (v := ?_) rfl (by kernel_rfl) (by kernel_rfl) (by kernel_rfl) (fun _ _ _ h => h) (Or.inl ⟨by rfl, ?_⟩) hHeld ?_
        rotate_left
        · intro w hSw; (try dsimp only at hSw); go_simp; with_reducible rfl
        try simp only [Act.put, List.setIfInBounds_toArray, List.set_cons_zero, List.set_cons_succ, ka2, ka3, u5]
        refine wpAnyH_take (i := 13) (oi := { dst := some 71, op := Op.move (Operand.tmp 70), type := 4, pos := "ref.go:19", after := #[{ on := 12, ground := Ground.data }, { on := 8, ground := Ground.chain }], guard := none }) (v := ?_) rfl (by kernel_rfl) (by kernel_rfl) (by kernel_rfl) (fun _ _ _ h => h) (Or.inl ⟨by rfl, ?_⟩) hHeld ?_
        rotate_left
        · intro w hSw; (try dsimp only at hSw); go_simp; with_reducible rfl
        try simp only [Act.put, List.setIfInBounds_toArray, List.set_cons_zero, List.set_cons_succ, ka2, ka3, u5]
        refine wpAnyH_take (i := 14) (oi := { dst := some 72, op := Op.fieldAddr 25 (Operand.tmp 1) 0, type := 0, pos := "ref.go:19", after := #[{ on := 13, ground := Ground.guard }], guard := some (13, false) }) (v := ?_) rfl (by kernel_rfl) (by kernel_rfl) (by kernel_rfl) (fun _ _ _ h => h) (Or.inl ⟨by rfl, ?_⟩) hHeld ?_
        rotate_left
        · intro w hSw; (try dsimp only at hSw); go_simp; with_reducible rfl
        try simp only [Act.put, List.setIfInBounds_toArray, List.set_cons_zero, List.set_cons_succ, ka2, ka3, u5]
        refine wpAnyH_take (i := 15) (oi := { dst := some 73, op := Op.load 3 (Operand.tmp 72), type := 3, pos := "ref.go:19", after := #[{ on := 14, ground := Ground.data }, { on := 13, ground := Ground.guard }], guard := some (13, false) }) (v := ?_) rfl (by kernel_rfl) (by kernel_rfl) (by kernel_rfl) (fun _ _ _ h => h) (Or.inl ⟨by rfl, ?_⟩) hHeld ?_
        rotate_left
        · intro w hSw; (try dsimp only at hSw); go_simp; with_reducible rfl
        try simp only [Act.put, List.setIfInBounds_toArray, List.set_cons_zero, List.set_cons_succ, ka2, ka3, u5]
        refine wpAnyH_take (i := 16) (oi := { dst := some 74, op := Op.binOp BinOp.eql 3 (Operand.tmp 73) (Operand.const (Value.int IntKind.i64 3)) 3, type := 4, pos := "ref.go:19", after := #[{ on := 15, ground := Ground.data }, { on := 13, ground := Ground.guard }], guard := some (13, false) }) (v := ?_) rfl (by kernel_rfl) (by kernel_rfl) (by kernel_rfl) (fun _ _ _ h => h) (Or.inl ⟨by rfl, ?_⟩) hHeld ?_
        rotate_left
        · intro w hSw; (try dsimp only at hSw); go_simp; with_reducible rfl
        try simp only [Act.put, List.setIfInBounds_toArray, List.set_cons_zero, List.set_cons_succ, ka2, ka3, u5]
        refine wpAnyH_take (i := 17) (oi := { dst := some 75, op := Op.move (Operand.tmp 74), type := 4, pos := "ref.go:19", after := #[{ on := 16, ground := Ground.data }, { on := 13, ground := Ground.chain }, { on := 13, ground := Ground.guard }], guard := some (13, false) }) (v := ?_) rfl (by kernel_rfl) (by kernel_rfl) (by kernel_rfl) (fun _ _ _ h => h) (Or.inl ⟨by rfl, ?_⟩) hHeld ?_
        rotate_left
        · intro w hSw; (try dsimp only at hSw); go_simp; with_reducible rfl
        try simp only [Act.put, List.setIfInBounds_toArray, List.set_cons_zero, List.set_cons_succ, ka2, ka3, u5]
        refine wpAnyH_take (i := 18) (oi := { dst := some 76, op := Op.fieldAddr 25 (Operand.tmp 1) 1, type := 0, pos := "ref.go:19", after := #[{ on := 17, ground := Ground.guard }], guard := some (17, true) }) (v := undef) rfl (by kernel_rfl) (by kernel_rfl) (by kernel_rfl) (fun _ _ _ h => h) (Or.inr ⟨by rfl, rfl⟩) hHeld ?_
        try simp only [Act.put, List.setIfInBounds_toArray, List.set_cons_zero, List.set_cons_succ, ka2, ka3, u5]
        refine wpAnyH_take (i := 19) (oi := { dst := some 77, op := Op.load 2 (Operand.tmp 76), type := 2, pos := "ref.go:19", after := #[{ on := 18, ground := Ground.data }, { on := 17, ground := Ground.guard }], guard := some (17, true) }) (v := undef) rfl (by kernel_rfl) (by kernel_rfl) (by kernel_rfl) (fun _ _ _ h => h) (Or.inr ⟨by rfl, rfl⟩) hHeld ?_
        try simp only [Act.put, List.setIfInBounds_toArray, List.set_cons_zero, List.set_cons_succ, ka2, ka3, u5]
        refine wpAnyH_take (i := 20) (oi := { dst := some 78, op := Op.binOp BinOp.lss 2 (Operand.tmp 77) (Operand.const (Value.int IntKind.i64 (-9007199254740991))) 2, type := 4, pos := "ref.go:19", after := #[{ on := 19, ground := Ground.data }, { on := 17, ground := Ground.guard }], guard := some (17, true) }) (v := undef) rfl (by kernel_rfl) (by kernel_rfl) (by kernel_rfl) (fun _ _ _ h => h) (Or.inr ⟨by rfl, rfl⟩) hHeld ?_
        try simp only [Act.put, List.setIfInBounds_toArray, List.set_cons_zero, List.set_cons_succ, ka2, ka3, u5]
        refine wpAnyH_take (i := 21) (oi := { dst := some 79, op := Op.move (Operand.tmp 78), type := 4, pos := "ref.go:19", after := #[{ on := 20, ground := Ground.data }, { on := 17, ground := Ground.chain }, { on := 17, ground := Ground.guard }], guard := some (17, true) }) (v := undef) rfl (by kernel_rfl) (by kernel_rfl) (by kernel_rfl) (fun _ _ _ h => h) (Or.inr ⟨by rfl, rfl⟩) hHeld ?_
        try simp only [Act.put, List.setIfInBounds_toArray, List.set_cons_zero, List.set_cons_succ, ka2, ka3, u5]
        refine wpAnyH_take (i := 22) (oi := { dst := some 80, op := Op.fieldAddr 25 (Operand.tmp 1) 1, type := 0, pos := "ref.go:19", after := #[{ on := 21, ground := Ground.guard }], guard := some (21, false) }) (v := undef) rfl (by kernel_rfl) (by kernel_rfl) (by kernel_rfl) (fun _ _ _ h => h) (Or.inr ⟨by rfl, rfl⟩) hHeld ?_
        try simp only [Act.put, List.setIfInBounds_toArray, List.set_cons_zero, List.set_cons_succ, ka2, ka3, u5]
        refine wpAnyH_take (i := 23) (oi := { dst := some 81, op := Op.load 2 (Operand.tmp 80), type := 2, pos := "ref.go:19", after := #[{ on := 22, ground := Ground.data }, { on := 21, ground := Ground.guard }], guard := some (21, false) }) (v := undef) rfl (by kernel_rfl) (by kernel_rfl) (by kernel_rfl) (fun _ _ _ h => h) (Or.inr ⟨by rfl, rfl⟩) hHeld ?_
        try simp only [Act.put, List.setIfInBounds_toArray, List.set_cons_zero, List.set_cons_succ, ka2, ka3, u5]
        refine wpAnyH_take (i := 24) (oi := { dst := some 82, op := Op.binOp BinOp.gtr 2 (Operand.tmp 81) (Operand.const (Value.int IntKind.i64 9007199254740991)) 2, type := 4, pos := "ref.go:19", after := #[{ on := 23, ground := Ground.data }, { on := 21, ground := Ground.guard }], guard := some (21, false) }) (v := undef) rfl (by kernel_rfl) (by kernel_rfl) (by kernel_rfl) (fun _ _ _ h => h) (Or.inr ⟨by rfl, rfl⟩) hHeld ?_
        try simp only [Act.put, List.setIfInBounds_toArray, List.set_cons_zero, List.set_cons_succ, ka2, ka3, u5]
        refine wpAnyH_take (i := 25) (oi := { dst := some 83, op := Op.pick (Operand.tmp 79) (Operand.const (Value.bool true)) (Operand.tmp 82), type := 4, pos := "ref.go:19", after := #[{ on := 21, ground := Ground.data }, { on := 24, ground := Ground.data }, { on := 17, ground := Ground.guard }], guard := some (17, true) }) (v := undef) rfl (by kernel_rfl) (by kernel_rfl) (by kernel_rfl) (fun _ _ _ h => h) (Or.inr ⟨by rfl, rfl⟩) hHeld ?_
        try simp only [Act.put, List.setIfInBounds_toArray, List.set_cons_zero, List.set_cons_succ, ka2, ka3, u5]
        refine wpAnyH_take (i := 26) (oi := { dst := some 84, op := Op.pick (Operand.tmp 75) (Operand.tmp 83) (Operand.const (Value.bool false)), type := 4, pos := "ref.go:19", after := #[{ on := 17, ground := Ground.data }, { on := 25, ground := Ground.data }, { on := 13, ground := Ground.guard }], guard := some (13, false) }) (v := ?_) rfl (by kernel_rfl) (by kernel_rfl) (by kernel_rfl) (fun _ _ _ h => h) (Or.inl ⟨by rfl, ?_⟩) hHeld ?_
        rotate_left
        · intro w hSw; (try dsimp only at hSw); go_simp; with_reducible rfl
        try simp only [Act.put, List.setIfInBounds_toArray, List.set_cons_zero, List.set_cons_succ, ka2, ka3, u5]
        refine wpAnyH_take (i := 27) (oi := { dst := some 85, op := Op.pick (Operand.tmp 71) (Operand.const (Value.bool true)) (Operand.tmp 84), type := 4, pos := "ref.go:19", after := #[{ on := 13, ground := Ground.data }, { on := 26, ground := Ground.data }], guard := none }) (v := ?_) rfl (by kernel_rfl) (by kernel_rfl) (by kernel_rfl) (fun _ _ _ h => h) (Or.inl ⟨by rfl, ?_⟩) hHeld ?_
        rotate_left
        · intro w hSw; (try dsimp only at hSw); go_simp; with_reducible rfl
        try simp only [Act.put, List.setIfInBounds_toArray, List.set_cons_zero, List.set_cons_succ, ka2, ka3, u5]
        refine wpAnyH_take (i := 28) (oi := { dst := some 86, op := Op.move (Operand.tmp 85), type := 4, pos := "ref.go:19", after := #[{ on := 27, ground := Ground.data }, { on := 21, ground := Ground.chain }], guard := none }) (v := ?_) rfl (by kernel_rfl) (by kernel_rfl) (by kernel_rfl) (fun _ _ _ h => h) (Or.inl ⟨by rfl, ?_⟩) hHeld ?_
        rotate_left
        · intro w hSw; (try dsimp only at hSw); go_simp; with_reducible rfl
        try simp only [Act.put, List.setIfInBounds_toArray, List.set_cons_zero, List.set_cons_succ, ka2, ka3, u5]
        refine wpAnyH_take (i := 29) (oi := { dst := some 87, op := Op.fieldAddr 25 (Operand.tmp 1) 2, type := 0, pos := "ref.go:19", after := #[{ on := 28, ground := Ground.guard }], guard := some (28, false) }) (v := ?_) rfl (by kernel_rfl) (by kernel_rfl) (by kernel_rfl) (fun _ _ _ h => h) (Or.inl ⟨by rfl, ?_⟩) hHeld ?_
        rotate_left
        · intro w hSw; (try dsimp only at hSw); go_simp; with_reducible rfl
        try simp only [Act.put, List.setIfInBounds_toArray, List.set_cons_zero, List.set_cons_succ, ka2, ka3, u5]
        refine wpAnyH_take (i := 30) (oi := { dst := some 88, op := Op.load 9 (Operand.tmp 87), type := 9, pos := "ref.go:19", after := #[{ on := 29, ground := Ground.data }, { on := 28, ground := Ground.guard }], guard := some (28, false) }) (v := ?_) rfl (by kernel_rfl) (by kernel_rfl) (by kernel_rfl) (fun _ _ _ h => h) (Or.inl ⟨by rfl, ?_⟩) hHeld ?_
        rotate_left
        · intro w hSw; (try dsimp only at hSw); go_simp; with_reducible rfl
        try simp only [Act.put, List.setIfInBounds_toArray, List.set_cons_zero, List.set_cons_succ, ka2, ka3, u5]
        refine wpAnyH_take (i := 32) (oi := { dst := some 90, op := Op.fieldAddr 25 (Operand.tmp 1) 2, type := 0, pos := "ref.go:19", after := #[{ on := 28, ground := Ground.guard }], guard := some (28, false) }) (v := ?_) rfl (by kernel_rfl) (by kernel_rfl) (by kernel_rfl) (fun _ _ _ h => h) (Or.inl ⟨by rfl, ?_⟩) hHeld ?_
        rotate_left
        · intro w hSw; (try dsimp only at hSw); go_simp; with_reducible rfl
        try simp only [Act.put, List.setIfInBounds_toArray, List.set_cons_zero, List.set_cons_succ, ka2, ka3, u5]
        refine wpAnyH_take (i := 33) (oi := { dst := some 91, op := Op.load 9 (Operand.tmp 90), type := 9, pos := "ref.go:19", after := #[{ on := 32, ground := Ground.data }, { on := 28, ground := Ground.guard }], guard := some (28, false) }) (v := ?_) rfl (by kernel_rfl) (by kernel_rfl) (by kernel_rfl) (fun _ _ _ h => h) (Or.inl ⟨by rfl, ?_⟩) hHeld ?_
        rotate_left
        · intro w hSw; (try dsimp only at hSw); go_simp; with_reducible rfl
        try simp only [Act.put, List.setIfInBounds_toArray, List.set_cons_zero, List.set_cons_succ, ka2, ka3, u5]
        refine wpAnyH_take (i := 34) (oi := { dst := some 92, op := Op.call { callee := Callee.builtin Builtin.len, args := #[Operand.tmp 91], argTypes := #[9] }, type := 3, pos := "ref.go:19", after := #[{ on := 33, ground := Ground.data }, { on := 28, ground := Ground.guard }], guard := some (28, false) }) (v := ?_) rfl (by kernel_rfl) (by kernel_rfl) (by kernel_rfl) (fun _ _ _ h => h) (Or.inl ⟨by rfl, ?_⟩) hHeld ?_
        rotate_left
        · intro w hSw; (try dsimp only at hSw); go_simp; with_reducible rfl
        try simp only [Act.put, List.setIfInBounds_toArray, List.set_cons_zero, List.set_cons_succ, ka2, ka3, u5]
        refine wpAnyH_ready (rs := [31]) (by kernel_rfl) (by simp) ?_
        refine AllReadyH.cons (o := { dst := some 89, op := Op.call { callee := Callee.value (Operand.func 35), args := #[Operand.tmp 88], argTypes := #[9] }, type := 3, pos := "ref.go:19", after := #[{ on := 30, ground := Ground.data }, { on := 28, ground := Ground.chain }, { on := 28, ground := Ground.guard }], guard := some (28, false) }) rfl (fun K hK => ?_) AllReadyH.nil
        go_simp
        refine (HB.out _).mono ?_
        rintro e w1 ⟨rfl, hb1⟩
        refine hK.out _ _ ⟨(hb1.cell (p := ⟨w.heap.size, 0, none⟩) (by show w.heap.size < w0.heap.size; omega)).trans f0, (hb1.cell (p := ⟨w.heap.size, 1, none⟩) (by show w.heap.size < w0.heap.size; omega)).trans f1, (hb1.cell (p := ⟨w.heap.size, 2, none⟩) (by show w.heap.size < w0.heap.size; omega)).trans f2⟩ (fun hHeld => ?_)
        clear hK K
        try simp only [Act.put, List.setIfInBounds_toArray, List.set_cons_zero, List.set_cons_succ, ka2, ka3, u5]
        refine wpAnyH_take (i := 35) (oi := { dst := some 93, op := Op.binOp BinOp.neq 3 (Operand.tmp 89) (Operand.tmp 92) 3, type := 4, pos := "ref.go:19", after := #[{ on := 31, ground := Ground.data }, { on := 34, ground := Ground.data }, { on := 28, ground := Ground.guard }], guard := some (28, false) }) (v := ?_) rfl (by kernel_rfl) (by kernel_rfl) (by kernel_rfl) (fun _ _ _ h => h) (Or.inl ⟨by rfl, ?_⟩) hHeld ?_
        rotate_left
        · intro w hSw; (try dsimp only at hSw); go_simp; with_reducible rfl
        try simp only [Act.put, List.setIfInBounds_toArray, List.set_cons_zero, List.set_cons_succ, ka2, ka3, u5]
        refine wpAnyH_take (i := 36) (oi := { dst := some 94, op := Op.pick (Operand.tmp 86) (Operand.const (Value.bool true)) (Operand.tmp 93), type := 4, pos := "ref.go:19", after := #[{ on := 28, ground := Ground.data }, { on := 35, ground := Ground.data }], guard := none }) (v := ?_) rfl (by kernel_rfl) (by kernel_rfl) (by kernel_rfl) (fun _ _ _ h => h) (Or.inl ⟨by rfl, ?_⟩) hHeld ?_
        rotate_left
        · intro w hSw; (try dsimp only at hSw); go_simp; with_reducible rfl
        try simp only [Act.put, List.setIfInBounds_toArray, List.set_cons_zero, List.set_cons_succ, ka2, ka3, u5]
        refine wpAnyH_done (by kernel_rfl) ?_ _
        have hb1' := (Below.refl w0.heap.size w0).drew.trans hb1
        have d4 := (hb1'.cell (p := ⟨w.heap.size, 4, none⟩) (by show w.heap.size < _; omega)).trans f4
        have HB1 := Lib.hid (HB0.out.trans (hb1'.mono (by omega)))
        have s1 := hb1'.size
        clear hb1 hb1'
        by_cases hz : z = (S.size : Int)
        · have hp := HB4.out.1 hz
          have HP := Lib.hid hp
          have t1 : (z != (S.size : Int)) = false := by rw [bne_eq_false_iff_eq]; exact hz
          clear hz hp
          simp only [t1]
          go_wp2_with fail
          go_loopw [3, 4] (fun i _ wr => i = .int .i64 0 ∧ Below (w.heap.size + 1) w1 wr) (fun _ _ _ => 0)
          case atStart => exact ⟨rfl, (Below.refl w1.heap.size w1).mono (by omega)⟩
          case round =>
            obtain ⟨rfl, hbr⟩ := hrel
            have e4 := (hbr.cell (p := ⟨w.heap.size, 4, none⟩) (by show w.heap.size < _; omega)).trans d4
            have HBR := Lib.hid (HB1.out.trans (hbr.mono (by omega)))
            clear hbr
            go_wp2_with fail
            go_ret
            exact ⟨⟨true, rfl, ⟨fun _ => HI.out.2 ⟨HK.out, HNO.out, HNUM.out, HP.out, HEM.out⟩, fun _ => rfl⟩⟩, HBR.out⟩
        · have t1 : (z != (S.size : Int)) = true := by rw [bne_iff_ne]; exact hz
          have HZ := Lib.hid hz; clear hz
          go_wp2_with fail
          go_ret
          exact ⟨⟨false, rfl, ⟨fun h => (by cases h), fun h => absurd (HB4.out.2 (HI.out.1 h).2.2.2.1) HZ.out⟩⟩, HB1.out⟩
      · have ka2 : (k == 2) = false := by rw [beq_eq_false_iff_ne]; omega
        have kb2 : (k != 2) = true := by rw [bne_iff_ne]; omega
        have ka3 : (k == 3) = false := by rw [beq_eq_false_iff_ne]; omega
        have kb3 : (k != 3) = true := by rw [bne_iff_ne]; omega
        have ka4 : (k == 4) = false := by rw [beq_eq_false_iff_ne]; omega
        have kb4 : (k != 4) = true := by rw [bne_iff_ne]; omega
        have ka5 : (k == 5) = false := by rw [beq_eq_false_iff_ne]; omega
        have kb5 : (k != 5) = true := by rw [bne_iff_ne]; omega
        have ka6 : (k == 6) = true := by rw [beq_iff_eq]; exact e
        have kb6 : (k != 6) = false := by rw [bne_eq_false_iff_eq]; exact e
        have kc1 : decide (k < 1) = false := decide_eq_false (by omega)
        have kc2 : decide (6 < k) = false := decide_eq_false (by omega)
        have hS0 : S.toList = [] := Classical.byContradiction fun x => hno (.inr (.inl ⟨x, by omega⟩))
        have hS1 : (S.toList != []) = false := by rw [hS0]; rfl
        have ha0 : a = 0 := Classical.byContradiction fun x => hno (.inr (.inr (.inl ⟨x, by omega⟩)))
        have HNO := Lib.hid hno
        have hn0 : n = 0 := Classical.byContradiction fun x => hno (.inl ⟨x, by omega, by omega⟩)
        have u5 : (n != 0) = false := by rw [bne_eq_false_iff_eq]; exact hn0
        have hnum : (k = 2 → n = 0 ∨ n = 1) ∧ (k = 3 → -9007199254740991 ≤ n ∧ n ≤ 9007199254740991) := ⟨fun h => absurd h (by omega), fun h => absurd h (by omega)⟩
        have HNUM := Lib.hid hnum; clear hnum
        clear hn0
        subst ha0
        have HK := Lib.hid hk
        clear hno hk e
        go_enter Tryd.func25, Tryd.ntmps25
        go_wp2_with fail
        rw [← HW0.out]
        refine wp_region_held_drew (S := (fun w' => w'.cell? ⟨w.heap.size, 0, none⟩ = some (.int .i64 k) ∧ w'.cell? ⟨w.heap.size, 1, none⟩ = some (.int .i64 n) ∧ w'.cell? ⟨w.heap.size, 2, none⟩ = some (.string S))) (by kernel_rfl) (by go_keep) (fun hHeld => ?_)
        refine wpAnyH_take (i := 0) (oi := { dst := some 58, op := Op.fieldAddr 25 (Operand.tmp 1) 0, type := 0, pos := "ref.go:19", after := #[], guard := none }) (v := ?_) rfl (by kernel_rfl) (by kernel_rfl) (by kernel_rfl) (fun _ _ _ h => h) (Or.inl ⟨by rfl, ?_⟩) hHeld ?_
        rotate_left
        · intro w hSw; (try dsimp only at hSw); go_simp; with_reducible rfl
        try simp only [Act.put, List.setIfInBounds_toArray, List.set_cons_zero, List.set_cons_succ, ka2, ka3, u5]
        refine wpAnyH_take (i := 1) (oi := { dst := some 59, op := Op.load 3 (Operand.tmp 58), type := 3, pos := "ref.go:19", after := #[{ on := 0, ground := Ground.data }], guard := none }) (v := ?_) rfl (by kernel_rfl) (by kernel_rfl) (by kernel_rfl) (fun _ _ _ h => h) (Or.inl ⟨by rfl, ?_⟩) hHeld ?_
        rotate_left
        · intro w hSw; (try dsimp only at hSw); go_simp; with_reducible rfl
        try simp only [Act.put, List.setIfInBounds_toArray, List.set_cons_zero, List.set_cons_succ, ka2, ka3, u5]
        refine wpAnyH_take (i := 2) (oi := { dst := some 60, op := Op.binOp BinOp.eql 3 (Operand.tmp 59) (Operand.const (Value.int IntKind.i64 2)) 3, type := 4, pos := "ref.go:19", after := #[{ on := 1, ground := Ground.data }], guard := none }) (v := ?_) rfl (by kernel_rfl) (by kernel_rfl) (by kernel_rfl) (fun _ _ _ h => h) (Or.inl ⟨by rfl, ?_⟩) hHeld ?_
        rotate_left
        · intro w hSw; (try dsimp only at hSw); go_simp; with_reducible rfl
        try simp only [Act.put, List.setIfInBounds_toArray, List.set_cons_zero, List.set_cons_succ, ka2, ka3, u5]
        refine wpAnyH_take (i := 3) (oi := { dst := some 61, op := Op.move (Operand.tmp 60), type := 4, pos := "ref.go:19", after := #[{ on := 2, ground := Ground.data }], guard := none }) (v := ?_) rfl (by kernel_rfl) (by kernel_rfl) (by kernel_rfl) (fun _ _ _ h => h) (Or.inl ⟨by rfl, ?_⟩) hHeld ?_
        rotate_left
        · intro w hSw; (try dsimp only at hSw); go_simp; with_reducible rfl
        try simp only [Act.put, List.setIfInBounds_toArray, List.set_cons_zero, List.set_cons_succ, ka2, ka3, u5]
        refine wpAnyH_take (i := 4) (oi := { dst := some 62, op := Op.fieldAddr 25 (Operand.tmp 1) 1, type := 0, pos := "ref.go:19", after := #[{ on := 3, ground := Ground.guard }], guard := some (3, true) }) (v := undef) rfl (by kernel_rfl) (by kernel_rfl) (by kernel_rfl) (fun _ _ _ h => h) (Or.inr ⟨by rfl, rfl⟩) hHeld ?_
        try simp only [Act.put, List.setIfInBounds_toArray, List.set_cons_zero, List.set_cons_succ, ka2, ka3, u5]
        refine wpAnyH_take (i := 5) (oi := { dst := some 63, op := Op.load 2 (Operand.tmp 62), type := 2, pos := "ref.go:19", after := #[{ on := 4, ground := Ground.data }, { on := 3, ground := Ground.guard }], guard := some (3, true) }) (v := undef) rfl (by kernel_rfl) (by kernel_rfl) (by kernel_rfl) (fun _ _ _ h => h) (Or.inr ⟨by rfl, rfl⟩) hHeld ?_
        try simp only [Act.put, List.setIfInBounds_toArray, List.set_cons_zero, List.set_cons_succ, ka2, ka3, u5]
        refine wpAnyH_take (i := 6) (oi := { dst := some 64, op := Op.binOp BinOp.neq 2 (Operand.tmp 63) (Operand.const (Value.int IntKind.i64 0)) 2, type := 4, pos := "ref.go:19", after := #[{ on := 5, ground := Ground.data }, { on := 3, ground := Ground.guard }], guard := some (3, true) }) (v := undef) rfl (by kernel_rfl) (by kernel_rfl) (by kernel_rfl) (fun _ _ _ h => h) (Or.inr ⟨by rfl, rfl⟩) hHeld ?_
        try simp only [Act.put, List.setIfInBounds_toArray, List.set_cons_zero, List.set_cons_succ, ka2, ka3, u5]
        refine wpAnyH_take (i := 7) (oi := { dst := some 65, op := Op.pick (Operand.tmp 61) (Operand.tmp 64) (Operand.const (Value.bool false)), type := 4, pos := "ref.go:19", after := #[{ on := 3, ground := Ground.data }, { on := 6, ground := Ground.data }], guard := none }) (v := ?_) rfl (by kernel_rfl) (by kernel_rfl) (by kernel_rfl) (fun _ _ _ h => h) (Or.inl ⟨by rfl, ?_⟩) hHeld ?_
        rotate_left
        · intro w hSw; (try dsimp only at hSw); go_simp; with_reducible rfl
        try simp only [Act.put, List.setIfInBounds_toArray, List.set_cons_zero, List.set_cons_succ, ka2, ka3, u5]
        refine wpAnyH_take (i := 8) (oi := { dst := some 66, op := Op.move (Operand.tmp 65), type := 4, pos := "ref.go:19", after := #[{ on := 7, ground := Ground.data }, { on := 3, ground := Ground.chain }], guard := none }) (v := ?_) rfl (by kernel_rfl) (by kernel_rfl) (by kernel_rfl) (fun _ _ _ h => h) (Or.inl ⟨by rfl, ?_⟩) hHeld ?_
        rotate_left
        · intro w hSw; (try dsimp only at hSw); go_simp; with_reducible rfl
        try simp only [Act.put, List.setIfInBounds_toArray, List.set_cons_zero, List.set_cons_succ, ka2, ka3, u5]
        refine wpAnyH_take (i := 9) (oi := { dst := some 67, op := Op.fieldAddr 25 (Operand.tmp 1) 1, type := 0, pos := "ref.go:19", after := #[{ on := 8, ground := Ground.guard }], guard := some (8, true) }) (v := undef) rfl (by kernel_rfl) (by kernel_rfl) (by kernel_rfl) (fun _ _ _ h => h) (Or.inr ⟨by rfl, rfl⟩) hHeld ?_
        try simp only [Act.put, List.setIfInBounds_toArray, List.set_cons_zero, List.set_cons_succ, ka2, ka3, u5]
        refine wpAnyH_take (i := 10) (oi := { dst := some 68, op := Op.load 2 (Operand.tmp 67), type := 2, pos := "ref.go:19", after := #[{ on := 9, ground := Ground.data }, { on := 8, ground := Ground.guard }], guard := some (8, true) }) (v := undef) rfl (by kernel_rfl) (by kernel_rfl) (by kernel_rfl) (fun _ _ _ h => h) (Or.inr ⟨by rfl, rfl⟩) hHeld ?_
        try simp only [Act.put, List.setIfInBounds_toArray, List.set_cons_zero, List.set_cons_succ, ka2, ka3, u5]
        refine wpAnyH_take (i := 11) (oi := { dst := some 69, op := Op.binOp BinOp.neq 2 (Operand.tmp 68) (Operand.const (Value.int IntKind.i64 1)) 2, type := 4, pos := "ref.go:19", after := #[{ on := 10, ground := Ground.data }, { on := 8, ground := Ground.guard }], guard := some (8, true) }) (v := undef) rfl (by kernel_rfl) (by kernel_rfl) (by kernel_rfl) (fun _ _ _ h => h) (Or.inr ⟨by rfl, rfl⟩) hHeld ?_
        try simp only [Act.put, List.setIfInBounds_toArray, List.set_cons_zero, List.set_cons_succ, ka2, ka3, u5]
        refine wpAnyH_take (i := 12) (oi := { dst := some 70, op := Op.pick (Operand.tmp 66) (Operand.tmp 69) (Operand.const (Value.bool false)), type := 4, pos := "ref.go:19", after := #[{ on := 8, ground := Ground.data }, { on := 11, ground := Ground.data }], guard := none }) (v := ?_) rfl (by kernel_rfl) (by kernel_rfl) (by kernel_rfl) (fun _ _ _ h => h) (Or.inl ⟨by rfl, ?_⟩) hHeld ?_
        rotate_left
        · intro w hSw; (try dsimp only at hSw); go_simp; with_reducible rfl
        try simp only [Act.put, List.setIfInBounds_toArray, List.set_cons_zero, List.set_cons_succ, ka2, ka3, u5]
        refine wpAnyH_take (i := 13) (oi := { dst := some 71, op := Op.move (Operand.tmp 70), type := 4, pos := "ref.go:19", after := #[{ on := 12, ground := Ground.data }, { on := 8, ground := Ground.chain }], guard := none }) (v := ?_) rfl (by kernel_rfl) (by kernel_rfl) (by kernel_rfl) (fun _ _ _ h => h) (Or.inl ⟨by rfl, ?_⟩) hHeld ?_
        rotate_left
        · intro w hSw; (try dsimp only at hSw); go_simp; with_reducible rfl
        try simp only [Act.put, List.setIfInBounds_toArray, List.set_cons_zero, List.set_cons_succ, ka2, ka3, u5]
        refine wpAnyH_take (i := 14) (oi := { dst := some 72, op := Op.fieldAddr 25 (Operand.tmp 1) 0, type := 0, pos := "ref.go:19", after := #[{ on := 13, ground := Ground.guard }], guard := some (13, false) }) (v := ?_) rfl (by kernel_rfl) (by kernel_rfl) (by kernel_rfl) (fun _ _ _ h => h) (Or.inl ⟨by rfl, ?_⟩) hHeld ?_
        rotate_left
        · intro w hSw; (try dsimp only at hSw); go_simp; with_reducible rfl
        try simp only [Act.put, List.setIfInBounds_toArray, List.set_cons_zero, List.set_cons_succ, ka2, ka3, u5]
        refine wpAnyH_take (i := 15) (oi := { dst := some 73, op := Op.load 3 (Operand.tmp 72), type := 3, pos := "ref.go:19", after := #[{ on := 14, ground := Ground.data }, { on := 13, ground := Ground.guard }], guard := some (13, false) }) (v := ?_) rfl (by kernel_rfl) (by kernel_rfl) (by kernel_rfl) (fun _ _ _ h => h) (Or.inl ⟨by rfl, ?_⟩) hHeld ?_
        rotate_left
        · intro w hSw; (try dsimp only at hSw); go_simp; with_reducible rfl
        try simp only [Act.put, List.setIfInBounds_toArray, List.set_cons_zero, List.set_cons_succ, ka2, ka3, u5]
        refine wpAnyH_take (i := 16) (oi := { dst := some 74, op := Op.binOp BinOp.eql 3 (Operand.tmp 73) (Operand.const (Value.int IntKind.i64 3)) 3, type := 4, pos := "ref.go:19", after := #[{ on := 15, ground := Ground.data }, { on := 13, ground := Ground.guard }], guard := some (13, false) }) (v := ?_) rfl (by kernel_rfl) (by kernel_rfl) (by kernel_rfl) (fun _ _ _ h => h) (Or.inl ⟨by rfl, ?_⟩) hHeld ?_
        rotate_left
        · intro w hSw; (try dsimp only at hSw); go_simp; with_reducible rfl
        try simp only [Act.put, List.setIfInBounds_toArray, List.set_cons_zero, List.set_cons_succ, ka2, ka3, u5]
        refine wpAnyH_take (i := 17) (oi := { dst := some 75, op := Op.move (Operand.tmp 74), type := 4, pos := "ref.go:19", after := #[{ on := 16, ground := Ground.data }, { on := 13, ground := Ground.chain }, { on := 13, ground := Ground.guard }], guard := some (13, false) }) (v := ?_) rfl (by kernel_rfl) (by kernel_rfl) (by kernel_rfl) (fun _ _ _ h => h) (Or.inl ⟨by rfl, ?_⟩) hHeld ?_
        rotate_left
        · intro w hSw; (try dsimp only at hSw); go_simp; with_reducible rfl
        try simp only [Act.put, List.setIfInBounds_toArray, List.set_cons_zero, List.set_cons_succ, ka2, ka3, u5]
        refine wpAnyH_take (i := 18) (oi := { dst := some 76, op := Op.fieldAddr 25 (Operand.tmp 1) 1, type := 0, pos := "ref.go:19", after := #[{ on := 17, ground := Ground.guard }], guard := some (17, true) }) (v := undef) rfl (by kernel_rfl) (by kernel_rfl) (by kernel_rfl) (fun _ _ _ h => h) (Or.inr ⟨by rfl, rfl⟩) hHeld ?_
        try simp only [Act.put, List.setIfInBounds_toArray, List.set_cons_zero, List.set_cons_succ, ka2, ka3, u5]
        refine wpAnyH_take (i := 19) (oi := { dst := some 77, op := Op.load 2 (Operand.tmp 76), type := 2, pos := "ref.go:19", after := #[{ on := 18, ground := Ground.data }, { on := 17, ground := Ground.guard }], guard := some (17, true) }) (v := undef) rfl (by kernel_rfl) (by kernel_rfl) (by kernel_rfl) (fun _ _ _ h => h) (Or.inr ⟨by rfl, rfl⟩) hHeld ?_
        try simp only [Act.put, List.setIfInBounds_toArray, List.set_cons_zero, List.set_cons_succ, ka2, ka3, u5]
        refine wpAnyH_take (i := 20) (oi := { dst := some 78, op := Op.binOp BinOp.lss 2 (Operand.tmp 77) (Operand.const (Value.int IntKind.i64 (-9007199254740991))) 2, type := 4, pos := "ref.go:19", after := #[{ on := 19, ground := Ground.data }, { on := 17, ground := Ground.guard }], guard := some (17, true) }) (v := undef) rfl (by kernel_rfl) (by kernel_rfl) (by kernel_rfl) (fun _ _ _ h => h) (Or.inr ⟨by rfl, rfl⟩) hHeld ?_
        try simp only [Act.put, List.setIfInBounds_toArray, List.set_cons_zero, List.set_cons_succ, ka2, ka3, u5]
        refine wpAnyH_take (i := 21) (oi := { dst := some 79, op := Op.move (Operand.tmp 78), type := 4, pos := "ref.go:19", after := #[{ on := 20, ground := Ground.data }, { on := 17, ground := Ground.chain }, { on := 17, ground := Ground.guard }], guard := some (17, true) }) (v := undef) rfl (by kernel_rfl) (by kernel_rfl) (by kernel_rfl) (fun _ _ _ h => h) (Or.inr ⟨by rfl, rfl⟩) hHeld ?_
        try simp only [Act.put, List.setIfInBounds_toArray, List.set_cons_zero, List.set_cons_succ, ka2, ka3, u5]
        refine wpAnyH_take (i := 22) (oi := { dst := some 80, op := Op.fieldAddr 25 (Operand.tmp 1) 1, type := 0, pos := "ref.go:19", after := #[{ on := 21, ground := Ground.guard }], guard := some (21, false) }) (v := undef) rfl (by kernel_rfl) (by kernel_rfl) (by kernel_rfl) (fun _ _ _ h => h) (Or.inr ⟨by rfl, rfl⟩) hHeld ?_
        try simp only [Act.put, List.setIfInBounds_toArray, List.set_cons_zero, List.set_cons_succ, ka2, ka3, u5]
        refine wpAnyH_take (i := 23) (oi := { dst := some 81, op := Op.load 2 (Operand.tmp 80), type := 2, pos := "ref.go:19", after := #[{ on := 22, ground := Ground.data }, { on := 21, ground := Ground.guard }], guard := some (21, false) }) (v := undef) rfl (by kernel_rfl) (by kernel_rfl) (by kernel_rfl) (fun _ _ _ h => h) (Or.inr ⟨by rfl, rfl⟩) hHeld ?_
        try simp only [Act.put, List.setIfInBounds_toArray, List.set_cons_zero, List.set_cons_succ, ka2, ka3, u5]
        refine wpAnyH_take (i := 24) (oi := { dst := some 82, op := Op.binOp BinOp.gtr 2 (Operand.tmp 81) (Operand.const (Value.int IntKind.i64 9007199254740991)) 2, type := 4, pos := "ref.go:19", after := #[{ on := 23, ground := Ground.data }, { on := 21, ground := Ground.guard }], guard := some (21, false) }) (v := undef) rfl (by kernel_rfl) (by kernel_rfl) (by kernel_rfl) (fun _ _ _ h => h) (Or.inr ⟨by rfl, rfl⟩) hHeld ?_
        try simp only [Act.put, List.setIfInBounds_toArray, List.set_cons_zero, List.set_cons_succ, ka2, ka3, u5]
        refine wpAnyH_take (i := 25) (oi := { dst := some 83, op := Op.pick (Operand.tmp 79) (Operand.const (Value.bool true)) (Operand.tmp 82), type := 4, pos := "ref.go:19", after := #[{ on := 21, ground := Ground.data }, { on := 24, ground := Ground.data }, { on := 17, ground := Ground.guard }], guard := some (17, true) }) (v := undef) rfl (by kernel_rfl) (by kernel_rfl) (by kernel_rfl) (fun _ _ _ h => h) (Or.inr ⟨by rfl, rfl⟩) hHeld ?_
        try simp only [Act.put, List.setIfInBounds_toArray, List.set_cons_zero, List.set_cons_succ, ka2, ka3, u5]
        refine wpAnyH_take (i := 26) (oi := { dst := some 84, op := Op.pick (Operand.tmp 75) (Operand.tmp 83) (Operand.const (Value.bool false)), type := 4, pos := "ref.go:19", after := #[{ on := 17, ground := Ground.data }, { on := 25, ground := Ground.data }, { on := 13, ground := Ground.guard }], guard := some (13, false) }) (v := ?_) rfl (by kernel_rfl) (by kernel_rfl) (by kernel_rfl) (fun _ _ _ h => h) (Or.inl ⟨by rfl, ?_⟩) hHeld ?_
        rotate_left
        · intro w hSw; (try dsimp only at hSw); go_simp; with_reducible rfl
        try simp only [Act.put, List.setIfInBounds_toArray, List.set_cons_zero, List.set_cons_succ, ka2, ka3, u5]
        refine wpAnyH_take (i := 27) (oi := { dst := some 85, op := Op.pick (Operand.tmp 71) (Operand.const (Value.bool true)) (Operand.tmp 84), type := 4, pos := "ref.go:19", after := #[{ on := 13, ground := Ground.data }, { on := 26, ground := Ground.data }], guard := none }) (v := ?_) rfl (by kernel_rfl) (by kernel_rfl) (by kernel_rfl) (fun _ _ _ h => h) (Or.inl ⟨by rfl, ?_⟩) hHeld ?_
        rotate_left
        · intro w hSw; (try dsimp only at hSw); go_simp; with_reducible rfl
        try simp only [Act.put, List.setIfInBounds_toArray, List.set_cons_zero, List.set_cons_succ, ka2, ka3, u5]
        refine wpAnyH_take (i := 28) (oi := { dst := some 86, op := Op.move (Operand.tmp 85), type := 4, pos := "ref.go:19", after := #[{ on := 27, ground := Ground.data }, { on := 21, ground := Ground.chain }], guard := none }) (v := ?_) rfl (by kernel_rfl) (by kernel_rfl) (by kernel_rfl) (fun _ _ _ h => h) (Or.inl ⟨by rfl, ?_⟩) hHeld ?_
        rotate_left
        · intro w hSw; (try dsimp only at hSw); go_simp; with_reducible rfl
        try simp only [Act.put, List.setIfInBounds_toArray, List.set_cons_zero, List.set_cons_succ, ka2, ka3, u5]
        refine wpAnyH_take (i := 29) (oi := { dst := some 87, op := Op.fieldAddr 25 (Operand.tmp 1) 2, type := 0, pos := "ref.go:19", after := #[{ on := 28, ground := Ground.guard }], guard := some (28, false) }) (v := ?_) rfl (by kernel_rfl) (by kernel_rfl) (by kernel_rfl) (fun _ _ _ h => h) (Or.inl ⟨by rfl, ?_⟩) hHeld ?_
        rotate_left
        · intro w hSw; (try dsimp only at hSw); go_simp; with_reducible rfl
        try simp only [Act.put, List.setIfInBounds_toArray, List.set_cons_zero, List.set_cons_succ, ka2, ka3, u5]
        refine wpAnyH_take (i := 30) (oi := { dst := some 88, op := Op.load 9 (Operand.tmp 87), type := 9, pos := "ref.go:19", after := #[{ on := 29, ground := Ground.data }, { on := 28, ground := Ground.guard }], guard := some (28, false) }) (v := ?_) rfl (by kernel_rfl) (by kernel_rfl) (by kernel_rfl) (fun _ _ _ h => h) (Or.inl ⟨by rfl, ?_⟩) hHeld ?_
        rotate_left
        · intro w hSw; (try dsimp only at hSw); go_simp; with_reducible rfl
        try simp only [Act.put, List.setIfInBounds_toArray, List.set_cons_zero, List.set_cons_succ, ka2, ka3, u5]
        refine wpAnyH_take (i := 32) (oi := { dst := some 90, op := Op.fieldAddr 25 (Operand.tmp 1) 2, type := 0, pos := "ref.go:19", after := #[{ on := 28, ground := Ground.guard }], guard := some (28, false) }) (v := ?_) rfl (by kernel_rfl) (by kernel_rfl) (by kernel_rfl) (fun _ _ _ h => h) (Or.inl ⟨by rfl, ?_⟩) hHeld ?_
        rotate_left
        · intro w hSw; (try dsimp only at hSw); go_simp; with_reducible rfl
        try simp only [Act.put, List.setIfInBounds_toArray, List.set_cons_zero, List.set_cons_succ, ka2, ka3, u5]
        refine wpAnyH_take (i := 33) (oi := { dst := some 91, op := Op.load 9 (Operand.tmp 90), type := 9, pos := "ref.go:19", after := #[{ on := 32, ground := Ground.data }, { on := 28, ground := Ground.guard }], guard := some (28, false) }) (v := ?_) rfl (by kernel_rfl) (by kernel_rfl) (by kernel_rfl) (fun _ _ _ h => h) (Or.inl ⟨by rfl, ?_⟩) hHeld ?_
        rotate_left
        · intro w hSw; (try dsimp only at hSw); go_simp; with_reducible rfl
        try simp only [Act.put, List.setIfInBounds_toArray, List.set_cons_zero, List.set_cons_succ, ka2, ka3, u5]
        refine wpAnyH_take (i := 34) (oi := { dst := some 92, op := Op.call { callee := Callee.builtin Builtin.len, args := #[Operand.tmp 91], argTypes := #[9] }, type := 3, pos := "ref.go:19", after := #[{ on := 33, ground := Ground.data }, { on := 28, ground := Ground.guard }], guard := some (28, false) }) (v := ?_) rfl (by kernel_rfl) (by kernel_rfl) (by kernel_rfl) (fun _ _ _ h => h) (Or.inl ⟨by rfl, ?_⟩) hHeld ?_
        rotate_left
        · intro w hSw; (try dsimp only at hSw); go_simp; with_reducible rfl
        try simp only [Act.put, List.setIfInBounds_toArray, List.set_cons_zero, List.set_cons_succ, ka2, ka3, u5]
        refine wpAnyH_ready (rs := [31]) (by kernel_rfl) (by simp) ?_
        refine AllReadyH.cons (o := { dst := some 89, op := Op.call { callee := Callee.value (Operand.func 35), args := #[Operand.tmp 88], argTypes := #[9] }, type := 3, pos := "ref.go:19", after := #[{ on := 30, ground := Ground.data }, { on := 28, ground := Ground.chain }, { on := 28, ground := Ground.guard }], guard := some (28, false) }) rfl (fun K hK => ?_) AllReadyH.nil
        go_simp
        refine (HB.out _).mono ?_
        rintro e w1 ⟨rfl, hb1⟩
        refine hK.out _ _ ⟨(hb1.cell (p := ⟨w.heap.size, 0, none⟩) (by show w.heap.size < w0.heap.size; omega)).trans f0, (hb1.cell (p := ⟨w.heap.size, 1, none⟩) (by show w.heap.size < w0.heap.size; omega)).trans f1, (hb1.cell (p := ⟨w.heap.size, 2, none⟩) (by show w.heap.size < w0.heap.size; omega)).trans f2⟩ (fun hHeld => ?_)
        clear hK K
        try simp only [Act.put, List.setIfInBounds_toArray, List.set_cons_zero, List.set_cons_succ, ka2, ka3, u5]
        refine wpAnyH_take (i := 35) (oi := { dst := some 93, op := Op.binOp BinOp.neq 3 (Operand.tmp 89) (Operand.tmp 92) 3, type := 4, pos := "ref.go:19", after := #[{ on := 31, ground := Ground.data }, { on := 34, ground := Ground.data }, { on := 28, ground := Ground.guard }], guard := some (28, false) }) (v := ?_) rfl (by kernel_rfl) (by kernel_rfl) (by kernel_rfl) (fun _ _ _ h => h) (Or.inl ⟨by rfl, ?_⟩) hHeld ?_
        rotate_left
        · intro w hSw; (try dsimp only at hSw); go_simp; with_reducible rfl
        try simp only [Act.put, List.setIfInBounds_toArray, List.set_cons_zero, List.set_cons_succ, ka2, ka3, u5]
        refine wpAnyH_take (i := 36) (oi := { dst := some 94, op := Op.pick (Operand.tmp 86) (Operand.const (Value.bool true)) (Operand.tmp 93), type := 4, pos := "ref.go:19", after := #[{ on := 28, ground := Ground.data }, { on := 35, ground := Ground.data }], guard := none }) (v := ?_) rfl (by kernel_rfl) (by kernel_rfl) (by kernel_rfl) (fun _ _ _ h => h) (Or.inl ⟨by rfl, ?_⟩) hHeld ?_
        rotate_left
        · intro w hSw; (try dsimp only at hSw); go_simp; with_reducible rfl
        try simp only [Act.put, List.setIfInBounds_toArray, List.set_cons_zero, List.set_cons_succ, ka2, ka3, u5]
        refine wpAnyH_done (by kernel_rfl) ?_ _
        have hb1' := (Below.refl w0.heap.size w0).drew.trans hb1
        have d4 := (hb1'.cell (p := ⟨w.heap.size, 4, none⟩) (by show w.heap.size < _; omega)).trans f4
        have HB1 := Lib.hid (HB0.out.trans (hb1'.mono (by omega)))
        have s1 := hb1'.size
        clear hb1 hb1'
        by_cases hz : z = (S.size : Int)
        · have hp := HB4.out.1 hz
          have HP := Lib.hid hp
          have t1 : (z != (S.size : Int)) = false := by rw [bne_eq_false_iff_eq]; exact hz
          clear hz hp
          simp only [t1]
          go_wp2_with fail
          by_cases h8 : lm ≤ 8192
          · have t8 : decide ((lm : Int) ≤ 8192) = true := decide_eq_true (by omega)
            have t8b : decide (lm ≤ 8192) = true := decide_eq_true h8
            go_loopw [3, 4] (fun i _ wr => ∃ ii : Nat, i = .int .i64 ii ∧ ii ≤ lm ∧ ((∀ x ∈ v.ns.take ii, okS x) ∧ (v.ns.take ii).Nodup) ∧ Below (w.heap.size + 1) w1 wr) (fun i _ _ => lm - (intOf i).toNat)
            case atStart => exact ⟨0, rfl, by omega, by simp, (Below.refl w1.heap.size w1).mono (by omega)⟩
            case round =>
              obtain ⟨ii, rfl, hii, hall, hbr⟩ := hrel
              obtain ⟨wo, hwo⟩ : ∃ z, z = wr := ⟨_, rfl⟩
              rw [← hwo] at hbr ⊢
              clear hwo
              have e4 := (hbr.cell (p := ⟨w.heap.size, 4, none⟩) (by show w.heap.size < _; omega)).trans d4
              have HBR := Lib.hid (HB1.out.trans (hbr.mono (by omega)))
              have sbr := hbr.size
              have BR := Lib.hid hbr
              have HALL := Lib.hid hall
              clear hbr hall
              by_cases hlt : ii < lm
              · have hlb : decide ((ii : Int) < (lm : Int)) = true := decide_eq_true (by omega)
                have hlb2 : decide (ii < lm) = true := decide_eq_true hlt
                have k0 : (0 : Int) ≤ (ii : Int) := by omega
                have k1 : (ii : Int) < (lm : Int) := by omega
                have hltn : ii < v.ns.length := by omega
                obtain ⟨g, o, e1, g1, g2, hRR⟩ := hM (by omega)
                subst e1
                have hnm : ∀ j (hj : j < v.ns.length), wo.cell? ⟨g, o + j * 6, none⟩ = some (.string (strOf v.ns[j])) := fun j hj => (HBR.out.cell (p := ⟨g, o + j * 6, none⟩) g2).trans (RdAM.at_ _ _ o hRR j (by omega) hj).1
                have HNM := Lib.hid hnm; clear hnm
                have hbad := fun w => rBad_any (strOf v.ns[ii]) w (by rw [strOf_size]; have := h2 _ (List.getElem_mem hltn); omega)
                have hokS : ((ptsL v.ns[ii]).2 : Int) = ((strOf v.ns[ii]).size : Int) ↔ okS v.ns[ii] := by unfold okS; rw [strOf_size]; omega
                rw [strOf_data] at hbad
                have htk : v.ns.take (ii + 1) = v.ns.take ii ++ [v.ns[ii]] := take_succ' v.ns ii hltn
                have n0 := HNM.out ii hltn
                have hnod : ∀ jj (hj : jj < ii) (hj2 : jj < v.ns.length), v.ns[jj] = v.ns[ii] → ¬ v.ns.Nodup := fun jj hj hj2 he hno => by
                  have h1 := (List.take_sublist (ii + 1) v.ns).nodup hno
                  rw [take_succ' v.ns ii hltn, List.nodup_append] at h1
                  exact h1.2.2 v.ns[jj] (List.mem_iff_getElem.2 ⟨jj, by rw [List.length_take]; omega, by simp⟩) v.ns[ii] (by simp) he
                have hxin := List.getElem_mem hltn
                generalize hX : v.ns[ii] = X at *
                have hSS : (strOf X).toList = X := strOf_list X
                generalize strOf X = XS at *
                generalize ((ptsL X).2 : Int) = zz at *
                have HBAD := Lib.hid hbad; clear hbad
                have HOK := Lib.hid hokS; clear hokS
                have HTK := Lib.hid htk; clear htk
                have HNOD := Lib.hid hnod; clear hnod
                have HX := Lib.hid hX; clear hX
                have HSS := Lib.hid hSS; clear hSS
                clear hRR
                by_cases hzz : zz = (XS.size : Int)
                · have t9 : (zz != (XS.size : Int)) = false := by rw [bne_eq_false_iff_eq]; exact hzz
                  have hokx := HOK.out.1 hzz
                  have HOKX := Lib.hid hokx; clear hokx hzz
                  go_wp2_with fail
                  go_region_held3 (fun w' => w'.cell? ⟨w.heap.size, 4, none⟩ = some (.slice (some ⟨g, o, none⟩) lm c2) ∧ w'.cell? ⟨g, o + ii * 6, none⟩ = some (.string XS)) (first | go_keep | exact ⟨(hb2.cell (p := ⟨w.heap.size, 4, none⟩) (by show w.heap.size < wo.heap.size; omega)).trans e4, (hb2.cell (p := ⟨g, o + ii * 6, none⟩) (by show g < wo.heap.size; omega)).trans n0⟩) ((go_at_call 35; refine (HBAD.out _).mono ?_; rintro e w2 ⟨rfl, hb2⟩))
                  have hb2' := (Below.refl wo.heap.size wo).drew.trans hb2
                  have BR2 := Lib.hid (BR.out.trans (hb2'.mono (by omega)))
                  have HBR2 := Lib.hid (HBR.out.trans (hb2'.mono (by omega)))
                  have s2 := hb2'.size
                  have hnm2 : ∀ j (hj : j < v.ns.length), w2.cell? ⟨g, o + j * 6, none⟩ = some (.string (strOf v.ns[j])) := fun j hj => (hb2'.cell (p := ⟨g, o + j * 6, none⟩) (by show g < _; omega)).trans (HNM.out j hj)
                  have HNM2 := Lib.hid hnm2; clear hnm2
                  have e42 := (hb2'.cell (p := ⟨w.heap.size, 4, none⟩) (by show w.heap.size < _; omega)).trans e4
                  have n02 := (hb2'.cell (p := ⟨g, o + ii * 6, none⟩) (by show g < _; omega)).trans n0
                  clear hb2 hb2'
                  go_wp2_with fail
                  go_loopw [4] (fun j wr => ∃ jj : Nat, j = .int .i64 jj ∧ jj ≤ ii ∧ X ∉ v.ns.take jj ∧ Below w2.heap.size w2 wr) (fun j _ => ii - (intOf j).toNat)
                  case atStart => exact ⟨0, rfl, by omega, by simp, Below.refl _ _⟩
                  case round =>
                    obtain ⟨jj, rfl, hjj, hnin, hb3⟩ := hrel
                    have HNIN := Lib.hid hnin; clear hnin
                    have B3 := Lib.hid hb3
                    have s3 := hb3.size
                    have e43 := (hb3.cell (p := ⟨w.heap.size, 4, none⟩) (by show w.heap.size < _; omega)).trans e42
                    have n03 := (hb3.cell (p := ⟨g, o + ii * 6, none⟩) (by show g < _; omega)).trans n02
                    by_cases hjl : jj < ii
                    · have hjb : decide ((jj : Int) < (ii : Int)) = true := decide_eq_true (by omega)
                      have hjb2 : decide (jj < ii) = true := decide_eq_true hjl
                      have j0 : (0 : Int) ≤ (jj : Int) := by omega
                      have j1 : (jj : Int) < (lm : Int) := by omega
                      have hjn : jj < v.ns.length := by omega
                      have nj3 := (hb3.cell (p := ⟨g, o + jj * 6, none⟩) (by show g < _; omega)).trans (HNM2.out jj hjn)
                      have htj : v.ns.take (jj + 1) = v.ns.take jj ++ [v.ns[jj]] := take_succ' v.ns jj hjn
                      have hnd := HNOD.out jj hjl hjn
                      have hYY : (strOf v.ns[jj]).toList = v.ns[jj] := strOf_list _
                      generalize v.ns[jj] = Y at *
                      generalize strOf Y = YS at *
                      have HTJ := Lib.hid htj; clear htj
                      have HND := Lib.hid hnd; clear hnd
                      have HYY := Lib.hid hYY; clear hYY
                      clear hb3
                      by_cases hE : YS.toList = XS.toList
                      · have tE : (YS.toList == XS.toList) = true := by rw [beq_iff_eq]; exact hE
                        have hxy : Y = X := by have := hE; rw [HYY.out, HSS.out] at this; exact this
                        have HXY := Lib.hid hxy; clear hxy hE
                        go_wp2_with fail
                        go_region_held3 (fun w' => w'.cell? ⟨w.heap.size, 4, none⟩ = some (.slice (some ⟨g, o, none⟩) lm c2) ∧ w'.cell? ⟨g, o + ii * 6, none⟩ = some (.string XS) ∧ w'.cell? ⟨g, o + jj * 6, none⟩ = some (.string YS)) (go_keep) (fail)
                        all_goals
                          go_wp2_with fail
                          go_ret
                          exact ⟨⟨false, rfl, ⟨fun h => (by cases h), fun h => absurd ((HI.out.1 h).2.2.2.2 (by omega)).2 (HND.out HXY.out)⟩⟩, (HBR2.out.trans (B3.out.mono HBR2.out.size)).drew⟩
                      · have tE : (YS.toList == XS.toList) = false := by rw [beq_eq_false_iff_ne]; exact hE
                        have hxy : Y ≠ X := fun h => hE (by rw [HYY.out, HSS.out, h])
                        have HXY := Lib.hid hxy; clear hxy hE
                        go_wp2_with fail
                        go_region_held3 (fun w' => w'.cell? ⟨w.heap.size, 4, none⟩ = some (.slice (some ⟨g, o, none⟩) lm c2) ∧ w'.cell? ⟨g, o + ii * 6, none⟩ = some (.string XS) ∧ w'.cell? ⟨g, o + jj * 6, none⟩ = some (.string YS)) (go_keep) (fail)
                        all_goals
                          go_wp2_with fail
                          go_roundw
                          case rel => exact ⟨jj + 1, by go_num, by omega, by rw [HTJ.out]; intro h; rcases List.mem_append.1 h with h | h; exact HNIN.out h; rw [List.mem_singleton] at h; exact HXY.out h.symm, B3.out.drew⟩
                          case measure => simp [intOf]; omega
                    · have hjb : decide ((jj : Int) < (ii : Int)) = false := decide_eq_false (by omega)
                      have hjb2 : decide (jj < ii) = false := decide_eq_false hjl
                      obtain rfl : jj = ii := by omega
                      clear hb3
                      go_wp2_with fail
                      go_roundw
                      case rel =>
                        refine ⟨jj + 1, by go_num, by omega, ⟨?_, ?_⟩, BR2.out.trans (B3.out.mono (by omega))⟩
                        · rw [HTK.out]; intro y hy; rcases List.mem_append.1 hy with hy | hy
                          · exact HALL.out.1 y hy
                          · rw [List.mem_singleton] at hy; rw [hy]; exact HOKX.out
                        · rw [HTK.out, List.nodup_append]
                          exact ⟨HALL.out.2, by simp, fun y hy y2 hy2 => by rw [List.mem_singleton] at hy2; subst hy2; rintro rfl; exact HNIN.out hy⟩
                      case measure => simp [intOf]; omega
                · have t9 : (zz != (XS.size : Int)) = true := by rw [bne_iff_ne]; exact hzz
                  have HZZ := Lib.hid hzz; clear hzz
                  have HXIN := Lib.hid hxin; clear hxin
                  go_wp2_with fail
                  go_region_held3 (fun w' => w'.cell? ⟨w.heap.size, 4, none⟩ = some (.slice (some ⟨g, o, none⟩) lm c2) ∧ w'.cell? ⟨g, o + ii * 6, none⟩ = some (.string XS)) (first | go_keep | exact ⟨(hb2.cell (p := ⟨w.heap.size, 4, none⟩) (by show w.heap.size < wo.heap.size; omega)).trans e4, (hb2.cell (p := ⟨g, o + ii * 6, none⟩) (by show g < wo.heap.size; omega)).trans n0⟩) ((go_at_call 35; refine (HBAD.out _).mono ?_; rintro e w2 ⟨rfl, hb2⟩))
                  have hb2' := (Below.refl wo.heap.size wo).drew.trans hb2
                  have HBR2 := Lib.hid (HBR.out.trans (hb2'.mono (by omega)))
                  clear hb2 hb2'
                  go_wp2_with fail
                  go_ret
                  exact ⟨⟨false, rfl, ⟨fun h => (by cases h), fun h => absurd (HOK.out.2 (((HI.out.1 h).2.2.2.2 (by omega)).1 X HXIN.out)) HZZ.out⟩⟩, HBR2.out⟩
              · have hlb : decide ((ii : Int) < (lm : Int)) = false := decide_eq_false (by omega)
                have hlb2 : decide (ii < lm) = false := decide_eq_false hlt
                have hfin : v.ns.take ii = v.ns := List.take_of_length_le (by omega)
                have hq := HALL.out
                rw [hfin] at hq
                have HQF := Lib.hid hq; clear hq hfin HALL
                go_wp2_with fail
                go_ret
                exact ⟨⟨true, rfl, ⟨fun _ => HI.out.2 ⟨HK.out, HNO.out, HNUM.out, HP.out, fun _ => HQF.out⟩, fun _ => rfl⟩⟩, HBR.out⟩
          · have t8 : decide ((lm : Int) ≤ 8192) = false := decide_eq_false (by omega)
            have t8b : decide (lm ≤ 8192) = false := decide_eq_false h8
            have hem : nmsOk v.ns := fun h => absurd h (by omega)
            have HEM := Lib.hid hem; clear hem
            go_loopw [3, 4] (fun i _ wr => i = .int .i64 0 ∧ Below (w.heap.size + 1) w1 wr) (fun _ _ _ => 0)
            case atStart => exact ⟨rfl, (Below.refl w1.heap.size w1).mono (by omega)⟩
            case round =>
              obtain ⟨rfl, hbr⟩ := hrel
              have e4 := (hbr.cell (p := ⟨w.heap.size, 4, none⟩) (by show w.heap.size < _; omega)).trans d4
              have HBR := Lib.hid (HB1.out.trans (hbr.mono (by omega)))
              clear hbr
              have hpos : 0 < lm := by omega
              go_wp2_with fail
              go_ret
              exact ⟨⟨true, rfl, ⟨fun _ => HI.out.2 ⟨HK.out, HNO.out, HNUM.out, HP.out, HEM.out⟩, fun _ => rfl⟩⟩, HBR.out⟩
        · have t1 : (z != (S.size : Int)) = true := by rw [bne_iff_ne]; exact hz
          have HZ := Lib.hid hz; clear hz
          go_wp2_with fail
          go_ret
          exact ⟨⟨false, rfl, ⟨fun h => (by cases h), fun h => absurd (HB4.out.2 (HI.out.1 h).2.2.2.1) HZ.out⟩⟩, HB1.out⟩
  · by_cases h1 : k < 1
    · have t1 : decide (k < 1) = true := decide_eq_true h1
      go_enter Tryd.func25, Tryd.ntmps25
      go_wp2_with fail
      go_ret
      exact ⟨⟨false, rfl, ⟨fun h => (by cases h), fun h => absurd (HI.out.1 h).1 hk⟩⟩, (Below.refl _ _).alloc (Nat.le_refl _) _⟩
    · have t1 : decide (k < 1) = false := decide_eq_false h1
      have t2 : decide (6 < k) = true := decide_eq_true (by omega)
      go_enter Tryd.func25, Tryd.ntmps25
      go_wp2_with fail
      go_ret
      exact ⟨⟨false, rfl, ⟨fun h => (by cases h), fun h => absurd (HI.out.1 h).1 hk⟩⟩, (Below.refl _ _).alloc (Nat.le_refl _) _⟩
end Go.Proofs.YtcbiaflbncfliaaDoor.Em
