import Derived.Test.YtoflogckoepioaaDoorReMem
import Derived.Test.YtoflogckoepioaaDoorScE
import Derived.BigQuiet
import Derived.IntWalk
import Derived.Deep.RegionHeld3
/- Contracts of layer 5's document's answer: token, mark, fail. -/
namespace Go.Proofs.YtoflogckoepioaaDoor.Re
open Go.RowKit
open Go.Proofs.YtoflogckoepioaaDoor.Utf
open Go.Proofs.YtoflogckoepioaaDoor.Sc

/-- the reader of tokens, in its block: the tokens, where the text ends, the next token's number, how many values, the fault's place, and why -/
def Prs (w : World) (pb : Nat) (vL : Value) (E : Int) (i p : Nat) (a y : Int) : Prop :=
  w.heap[pb]? = some (.cells #[vL, .int .i64 E, .int .i64 i, .int .i64 p, .int .i64 a, .int .i64 y] 50 (0, 0))
theorem Prs.cells {w : World} {pb : Nat} {vL : Value} {E : Int} {i p : Nat} {a y : Int} (h : Prs w pb vL E i p a y) :
    pb < w.heap.size ∧ w.cell? ⟨pb, 0, none⟩ = some vL ∧ w.cell? ⟨pb, 1, none⟩ = some (.int .i64 E) ∧ w.cell? ⟨pb, 2, none⟩ = some (.int .i64 i) ∧ w.cell? ⟨pb, 3, none⟩ = some (.int .i64 p) ∧ w.cell? ⟨pb, 4, none⟩ = some (.int .i64 a) ∧ w.cell? ⟨pb, 5, none⟩ = some (.int .i64 y) ∧ (∀ j, w.frozen? ⟨pb, j, none⟩ = false) :=
  ⟨(Array.getElem?_eq_some_iff.1 h).1, (cell_of_row _ _ 0 _ _ _ h).trans rfl, (cell_of_row _ _ 1 _ _ _ h).trans rfl, (cell_of_row _ _ 2 _ _ _ h).trans rfl, (cell_of_row _ _ 3 _ _ _ h).trans rfl, (cell_of_row _ _ 4 _ _ _ h).trans rfl, (cell_of_row _ _ 5 _ _ _ h).trans rfl, fun j => frozen_of_row _ _ j _ _ h⟩
theorem Prs.below {w w' : World} {pb : Nat} {vL : Value} {E : Int} {i p : Nat} {a y : Int} (h : Prs w pb vL E i p a y) (hb : Below w.heap.size w w') : Prs w' pb vL E i p a y := (hb.block pb (Array.getElem?_eq_some_iff.1 h).1).trans h
def tokV (t : Tok) : Value := .agg #[.int .i64 t.1, .int .i64 t.2.1, .string (strOf t.2.2.1), .int .i64 t.2.2.2]

set_option maxRecDepth 100000 in
set_option maxHeartbeats 2000000 in
theorem token_any (pb : Nat) (vL : Value) (ts : List Tok) (E : Int) (i p : Nat) (a y : Int) (w : World) (hp : Prs w pb vL E i p a y) (hr : RdT w w.heap.size vL ts) :
    Calls Tryd.prog 22 #[.pointer (some ⟨pb, 0, none⟩)] w fun e w' => e = .returned (tokV (tk ts E i)) ∧ Below w.heap.size w w' := by
  obtain ⟨hlt, c0, c1, c2, _, _, _, _⟩ := hp.cells
  by_cases hi : i < ts.length
  · obtain ⟨g, c, rfl, hg, a0, a1, a2, a3⟩ := hr.at_ i hi
    rw [tk_in hi]
    have hd : decide ((ts.length : Int) ≤ (i : Int)) = false := decide_eq_false (by omega)
    have hd2 : decide (ts.length ≤ i) = false := decide_eq_false (by omega)
    have k0 : (0 : Int) ≤ (i : Int) := by omega
    have k1 : (i : Int) < (ts.length : Int) := by omega
    rcases htk : ts[i] with ⟨x1, x2, x3, x4⟩
    rw [htk] at a0 a1 a2 a3
    simp only at a0 a1 a2 a3
    clear htk
    unfold tokV
    simp only
    generalize strOf x3 = X at *
    have HP := Lib.hid hp; clear hp
    have HR := Lib.hid hr; clear hr
    go_enter Tryd.func22, Tryd.ntmps22
    go_wp2_with fail
    go_quiet (fail)
    go_wp2_with fail
    go_region
    all_goals
      go_wp2_with fail
      refine bodyPost_ret (v := .agg #[.int .i64 x1, .int .i64 x2, .string X, .int .i64 x4]) (by simp [results, Tryd.results22, go_sem]) rfl ⟨rfl, ?_⟩
      exact ((((below_drewN ((Below.refl w.heap.size w).alloc (Nat.le_refl _) _) (nq + 1)).setCell (Nat.le_refl _) _).setCell (Nat.le_refl _) _).setCell (Nat.le_refl _) _).setCell (Nat.le_refl _) _
  · rw [tk_out (by omega)]
    have hd : decide ((ts.length : Int) ≤ (i : Int)) = true := decide_eq_true (by omega)
    have hd2 : decide (ts.length ≤ i) = true := decide_eq_true (by omega)
    obtain ⟨A, c, rfl, _⟩ := id hr
    unfold tokV
    simp only
    have HP := Lib.hid hp; clear hp
    have HR := Lib.hid hr; clear hr
    go_enter Tryd.func22, Tryd.ntmps22
    go_wp2_with fail
    go_quiet (fail)
    go_wp2_with fail
    refine bodyPost_ret (v := .agg #[.int .i64 0, .int .i64 0, .string (strOf []), .int .i64 E]) (by simp [results, Tryd.results22, go_sem, strOf]) rfl ⟨rfl, ?_⟩
    exact ((((below_drewN ((Below.refl w.heap.size w).alloc (Nat.le_refl _) _) nq).setCell (Nat.le_refl _) _).setCell (Nat.le_refl _) _).setCell (Nat.le_refl _) _).setCell (Nat.le_refl _) _

/-! ### what was there stays, but for one block -/
/-- a value that is handed back out of a variable of its own -/
theorem results5 {fn : Func} {s b : Nat} {tmps : Array Value} {w : World} {fr : Nat × Nat} {v0 v1 v2 v3 v4 : Value} (hf : fn.results = #[.cell s 25]) (ht : tmps.getD s undef = .pointer (some ⟨b, 0, none⟩))
    (h : w.heap[b]? = some (.cells #[v0, v1, v2, v3, v4] 25 fr)) : (results fn tmps).run Tryd.prog w = .ok (.agg #[v0, v1, v2, v3, v4]) w := by
  have c0 := (cell_of_row _ _ 0 _ _ _ h).trans (rfl : _ = some v0)
  have c1 := (cell_of_row _ _ 1 _ _ _ h).trans (rfl : _ = some v1)
  have c2 := (cell_of_row _ _ 2 _ _ _ h).trans (rfl : _ = some v2)
  have c3 := (cell_of_row _ _ 3 _ _ _ h).trans (rfl : _ = some v3)
  have c4 := (cell_of_row _ _ 4 _ _ _ h).trans (rfl : _ = some v4)
  rw [Array.getD_eq_getD_getElem?] at ht
  simp [results, hf, ht, c0, c1, c2, c3, c4, go_sem]
theorem szAlloc' (w : World) (o : Obj) : (w.alloc o).heap.size = w.heap.size + 1 := by simp
theorem Fr.of {w w' : World} (pb : Nat) (h : Below w.heap.size w w') : w.grownBy w' (some pb) := ⟨h.os, h.tape, h.output, h.size, fun k hk _ => h.block k hk⟩
theorem Fr.trans {w w1 w2 : World} {pb : Nat} (h1 : w.grownBy w1 (some pb)) (h2 : w1.grownBy w2 (some pb)) : w.grownBy w2 (some pb) :=
  ⟨h2.os.trans h1.os, h2.tape.trans h1.tape, h2.output.trans h1.output, Nat.le_trans h1.size h2.size, fun k hk hne => (h2.block k (Nat.lt_of_lt_of_le hk h1.size) hne).trans (h1.block k hk hne)⟩
theorem Fr.set (w : World) (pb j : Nat) (u : Value) : w.grownBy (w.setCell ⟨pb, j, none⟩ u) (some pb) :=
  ⟨rfl, rfl, rfl, by simp, fun k _ hne => heap_setCell_other w ⟨pb, j, none⟩ k u (fun e => hne (by rw [e]))⟩
theorem Fr.new {w w' : World} {pb : Nat} (h : w.grownBy w' (some pb)) (p : Addr) (hp : w.heap.size ≤ p.block) (u : Value) : w.grownBy (w'.setCell p u) (some pb) :=
  ⟨h.os, h.tape, h.output, by simpa using h.size, fun k hk hne => (heap_setCell_other w' p k u (by omega)).trans (h.block k hk hne)⟩
theorem Fr.alloc {w w' : World} {pb : Nat} (h : w.grownBy w' (some pb)) (o : Obj) : w.grownBy (w'.alloc o) (some pb) :=
  ⟨h.os, h.tape, h.output, Nat.le_trans h.size (by simp), fun k hk hne => (heap_alloc_old w' o (Nat.lt_of_lt_of_le hk h.size)).trans (h.block k hk hne)⟩
theorem Prs.far {w : World} {pb : Nat} {vL : Value} {E : Int} {i p : Nat} {a y : Int} (h : Prs w pb vL E i p a y) (q : Addr) (hq : q.block ≠ pb) (u : Value) : Prs (w.setCell q u) pb vL E i p a y :=
  (heap_setCell_other w q pb u (fun e => hq e.symm)).trans h
theorem Prs.seti {w : World} {pb : Nat} {vL : Value} {E : Int} {i p : Nat} {a y : Int} (h : Prs w pb vL E i p a y) (j : Nat) : Prs (w.setCell ⟨pb, 2, none⟩ (.int .i64 j)) pb vL E j p a y :=
  heap_setCell_same w pb 2 _ _ (.int .i64 j) h
theorem Prs.setp {w : World} {pb : Nat} {vL : Value} {E : Int} {i p : Nat} {a y : Int} (h : Prs w pb vL E i p a y) (j : Nat) : Prs (w.setCell ⟨pb, 3, none⟩ (.int .i64 j)) pb vL E i j a y :=
  heap_setCell_same w pb 3 _ _ (.int .i64 j) h
theorem Prs.seta {w : World} {pb : Nat} {vL : Value} {E : Int} {i p : Nat} {a y : Int} (h : Prs w pb vL E i p a y) (z : Int) : Prs (w.setCell ⟨pb, 4, none⟩ (.int .i64 z)) pb vL E i p z y :=
  heap_setCell_same w pb 4 _ _ (.int .i64 z) h
theorem Prs.sety {w : World} {pb : Nat} {vL : Value} {E : Int} {i p : Nat} {a y : Int} (h : Prs w pb vL E i p a y) (z : Int) : Prs (w.setCell ⟨pb, 5, none⟩ (.int .i64 z)) pb vL E i p a z :=
  heap_setCell_same w pb 5 _ _ (.int .i64 z) h
theorem RdT_fr {w w' : World} {pb : Nat} {vL : Value} {ts : List Tok} (h : RdT w pb vL ts) (hpb : pb ≤ w.heap.size) (hf : w.grownBy w' (some pb)) : RdT w' pb vL ts :=
  h.keep fun q hq => World.cell?_of_block (hf.block q.block (by omega) (fun e => by have := Option.some.inj e; omega))
def zeroV : Value := .agg #[.int .i64 0, .int .i64 0, .string ⟨#[]⟩, .slice none 0 0, .slice none 0 0]

set_option maxRecDepth 100000 in
set_option maxHeartbeats 2000000 in
theorem mark_any (pb : Nat) (vL : Value) (ts : List Tok) (E : Int) (i p : Nat) (a y : Int) (c : UInt8) (s : ByteArray) (w : World) (hp : Prs w pb vL E i p a y) (hr : RdT w pb vL ts) (hs : s.toList = [c]) (hi : i ≤ 4611686018427387904) :
    Calls Tryd.prog 42 #[.pointer (some ⟨pb, 0, none⟩), .string s] w fun e w' => e = .returned (.bool (isM (tk ts E i) c)) ∧ w.grownBy w' (some pb) ∧ Prs w' pb vL E (if isM (tk ts E i) c = true then i + 1 else i) p a y := by
  have ht := token_any pb vL ts E i p a y w hp (hr.more (Nat.le_of_lt hp.cells.1))
  have hm : isM (tk ts E i) c = true ↔ ((tk ts E i).1 = 1 ∧ (strOf (tk ts E i).2.2.1).toList = s.toList) := by
    rw [strOf_list, hs]; unfold isM; simp
  generalize tk ts E i = t at *
  obtain ⟨x1, x2, x3, x4⟩ := t
  unfold tokV at ht
  simp only at ht hm
  generalize strOf x3 = X at *
  generalize isM (x1, x2, x3, x4) c = b at *
  have HT := Lib.hid ht; clear ht
  have HP := Lib.hid hp; clear hp
  have HR := Lib.hid hr; clear hr
  have HS := Lib.hid hs; clear hs
  by_cases h1 : x1 = 1
  · subst h1
    by_cases h2 : X.toList = s.toList
    · have hb : b = true := hm.2 ⟨rfl, h2⟩
      subst hb
      have t1 : (X.toList == s.toList) = true := by rw [beq_iff_eq]; exact h2
      clear hm h2
      go_enter Tryd.func42, Tryd.ntmps42
      go_wp2_with fail
      refine HT.out.mono ?_
      rintro e w1 ⟨rfl, hb1⟩
      have hp1 := HP.out.below hb1
      obtain ⟨hlt, _, _, c2, _, _, _, fz⟩ := hp1.cells
      have f2 := fz 2
      clear fz
      have HP1 := Lib.hid hp1; clear hp1
      go_wp2_with fail
      go_ret
      have ha : Below w1.heap.size (w1.setCell ⟨pb, 2, none⟩ (.int .i64 ((i : Int) + 1))) ((w1.setCell ⟨pb, 2, none⟩ (.int .i64 ((i : Int) + 1))).alloc (.cells #[.int .i64 1, .int .i64 x2, .string X, .int .i64 x4] 44)) := (Below.refl _ _).alloc (by simp) _
      exact ⟨rfl, ((Fr.of pb hb1).trans (Fr.set w1 pb 2 _)).trans (Fr.of pb (by simpa using ha)), (HP1.out.seti (i + 1)).below (by simpa using ha)⟩
    · have hb : b = false := by
        rcases b with _ | _
        · rfl
        · exact absurd (hm.1 rfl).2 h2
      subst hb
      have t1 : (X.toList == s.toList) = false := by rw [beq_eq_false_iff_ne]; exact h2
      clear hm h2
      go_enter Tryd.func42, Tryd.ntmps42
      go_wp2_with fail
      refine HT.out.mono ?_
      rintro e w1 ⟨rfl, hb1⟩
      go_wp2_with fail
      go_ret
      have ha : Below w.heap.size w (w1.alloc (.cells #[.int .i64 1, .int .i64 x2, .string X, .int .i64 x4] 44)) := hb1.alloc hb1.size _
      exact ⟨rfl, Fr.of pb ha, HP.out.below ha⟩
  · have hb : b = false := by
      rcases b with _ | _
      · rfl
      · exact absurd (hm.1 rfl).1 h1
    subst hb
    have t1 : (x1 == 1) = false := by rw [beq_eq_false_iff_ne]; exact h1
    clear hm h1
    go_enter Tryd.func42, Tryd.ntmps42
    go_wp2_with fail
    refine HT.out.mono ?_
    rintro e w1 ⟨rfl, hb1⟩
    go_wp2_with fail
    go_ret
    have ha : Below w.heap.size w (w1.alloc (.cells #[.int .i64 x1, .int .i64 x2, .string X, .int .i64 x4] 44)) := hb1.alloc hb1.size _
    exact ⟨rfl, Fr.of pb ha, HP.out.below ha⟩

set_option maxRecDepth 100000 in
set_option maxHeartbeats 2000000 in
theorem fail_any (pb : Nat) (vL : Value) (ts : List Tok) (E : Int) (i p : Nat) (a why : Int) (w : World) (hp : Prs w pb vL E i p a 0) (hr : RdT w pb vL ts) :
    Calls Tryd.prog 14 #[.pointer (some ⟨pb, 0, none⟩), .int .i64 why] w fun e w' => e = .returned zeroV ∧ w.grownBy w' (some pb) ∧ Prs w' pb vL E i p (tk ts E i).2.2.2 why := by
  obtain ⟨hlt, c0, c1, c2, c3, c4, c5, fz⟩ := hp.cells
  have f5 := fz 5
  have ht := fun w' hp' hr' => token_any pb vL ts E i p a why w' hp' hr'
  have hp5 := hp.sety why
  have hf5 := Fr.set w pb 5 (.int .i64 why)
  have hr5 := RdT_fr hr (Nat.le_of_lt hlt) hf5
  generalize tk ts E i = t at *
  obtain ⟨x1, x2, x3, x4⟩ := t
  unfold tokV at ht
  simp only at ht ⊢
  generalize strOf x3 = X at *
  obtain ⟨wa, hwa⟩ : ∃ wa, wa = (w.setCell ⟨pb, 5, none⟩ (.int .i64 why)).alloc (.cells #[.int .i64 0, .int .i64 0, .string ⟨#[]⟩, .slice none 0 0, .slice none 0 0] 25) := ⟨_, rfl⟩
  have ha : Below (w.setCell ⟨pb, 5, none⟩ (.int .i64 why)).heap.size (w.setCell ⟨pb, 5, none⟩ (.int .i64 why)) wa := by rw [hwa]; exact (Below.refl _ _).alloc (Nat.le_refl _) _
  have hfa := hf5.trans (Fr.of pb ha)
  have hpa := hp5.below ha
  have hra := RdT_fr hr (Nat.le_of_lt hlt) hfa
  have hsa : wa.heap.size = w.heap.size + 1 := by rw [hwa, szAlloc']; simp
  have hza : wa.heap[w.heap.size]? = some (.cells #[.int .i64 0, .int .i64 0, .string ⟨#[]⟩, .slice none 0 0, .slice none 0 0] 25 (0, 0)) := by
    rw [hwa]
    have := heap_alloc_new (w.setCell ⟨pb, 5, none⟩ (.int .i64 why)) (.cells #[.int .i64 0, .int .i64 0, .string ⟨#[]⟩, .slice none 0 0, .slice none 0 0] 25)
    rw [show (w.setCell ⟨pb, 5, none⟩ (.int .i64 why)).heap.size = w.heap.size by simp] at this
    exact this
  have HT := Lib.hid (ht wa hpa (hra.more (by omega))); clear ht
  rw [hwa] at HT
  have HWA := Lib.hid hwa
  clear hp hr hp5 hf5 hr5 hra fz hwa ha
  have hfd : ∀ w : World, (Instr.field 44 (.agg #[.int .i64 x1, .int .i64 x2, .string X, .int .i64 x4]) 3).run Tryd.prog w = .ok (.int .i64 x4) w := fun _ => by kernel_rfl
  unfold zeroV
  go_enter Tryd.func14, Tryd.ntmps14
  go_wp2_with fail
  refine HT.out.mono ?_
  rw [← HWA.out]
  rintro e w1 ⟨rfl, hb1⟩
  have hp1 := hpa.below hb1
  obtain ⟨hlt1, _, _, _, _, d4, _, fz1⟩ := hp1.cells
  have g4 := fz1 4
  have hz1 : w1.heap[w.heap.size]? = _ := (hb1.block w.heap.size (by omega)).trans hza
  have z0 := (cell_of_row _ _ 0 _ _ _ hz1).trans rfl
  have z1 := (cell_of_row _ _ 1 _ _ _ hz1).trans rfl
  have z2 := (cell_of_row _ _ 2 _ _ _ hz1).trans rfl
  have z3 := (cell_of_row _ _ 3 _ _ _ hz1).trans rfl
  have z4 := (cell_of_row _ _ 4 _ _ _ hz1).trans rfl
  have q0 := frozen_of_row _ _ 0 _ _ hz1
  have q1 := frozen_of_row _ _ 1 _ _ hz1
  have q2 := frozen_of_row _ _ 2 _ _ hz1
  have q3 := frozen_of_row _ _ 3 _ _ hz1
  have q4 := frozen_of_row _ _ 4 _ _ hz1
  have hpn : pb ≠ w.heap.size := by omega
  have HP1 := Lib.hid hp1; clear hp1
  have HZ1 := Lib.hid hz1
  clear hz1 hza fz1 hpa
  go_wp2_with fail
  have b0 : (w1.setCell ⟨pb, 4, none⟩ (.int .i64 x4)).heap[w.heap.size]? = _ := (heap_setCell_other w1 ⟨pb, 4, none⟩ w.heap.size _ (fun e => hpn e.symm)).trans HZ1.out
  have b1 := heap_setCell_same _ w.heap.size 0 _ _ (.int .i64 0) b0
  have b2 := heap_setCell_same _ w.heap.size 1 _ _ (.int .i64 0) b1
  have b3 := heap_setCell_same _ w.heap.size 2 _ _ (.string ⟨#[]⟩) b2
  have b4 := heap_setCell_same _ w.heap.size 3 _ _ (.slice none 0 0) b3
  have b5 := heap_setCell_same _ w.heap.size 4 _ _ (.slice none 0 0) b4
  have hn : w.heap.size ≠ pb := fun e => hpn e.symm
  refine bodyPost_ret (results5 rfl rfl b5) rfl ⟨rfl, ?_, (((((HP1.out.seta x4).far ⟨w.heap.size, 0, none⟩ hn _).far ⟨w.heap.size, 1, none⟩ hn _).far ⟨w.heap.size, 2, none⟩ hn _).far ⟨w.heap.size, 3, none⟩ hn _).far ⟨w.heap.size, 4, none⟩ hn _⟩
  exact Fr.new (Fr.new (Fr.new (Fr.new (Fr.new ((hfa.trans (Fr.of pb hb1)).trans (Fr.set _ _ _ _)) ⟨w.heap.size, 0, none⟩ (Nat.le_refl _) _) ⟨w.heap.size, 1, none⟩ (Nat.le_refl _) _) ⟨w.heap.size, 2, none⟩ (Nat.le_refl _) _) ⟨w.heap.size, 3, none⟩ (Nat.le_refl _) _) ⟨w.heap.size, 4, none⟩ (Nat.le_refl _) _
end Go.Proofs.YtoflogckoepioaaDoor.Re
