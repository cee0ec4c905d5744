import Derived.Test.YtcbiaflbncfliaaRfA
import Derived.Test.YtcbiaflbncfliaaReD
/- Contracts of package read: the values that begin with no mark. Written by tools/genRfB.py. -/
namespace Go.Proofs.Ytcbiaflbncfliaa.Re
open Go.RowKit
open Go.Proofs.Ytcbiaflbncfliaa.Utf
open Go.Proofs.Ytcbiaflbncfliaa.Sc

/-- what a slice leads to may be written -/
def NF (w : World) (u : Value) : Prop := ∀ A n c, u = .slice A n c → 0 < n → ∃ g, A = some ⟨g, 0, none⟩ ∧ g < w.heap.size ∧ ∀ o, w.frozen? ⟨g, o, none⟩ = false
/-- cells that can be stored, whose slices lead to what may be written -/
def OkC (w : World) (l : List Value) : Prop := ∀ u ∈ l, u.oneCell' = true ∧ NF w u
theorem OkC.one {w : World} {l : List Value} (h : OkC w l) : ∀ u ∈ l, u.oneCell' = true := fun u hu => (h u hu).1
theorem OkC.keep {w w' : World} {l : List Value} (h : OkC w l) (hs : w.heap.size ≤ w'.heap.size) (hf : ∀ p : Addr, p.block < w.heap.size → w'.frozen? p = w.frozen? p) : OkC w' l := fun u hu =>
  ⟨(h u hu).1, fun A n c e hn => by
    obtain ⟨g, h1, h2, h3⟩ := (h u hu).2 A n c e hn
    exact ⟨g, h1, by omega, fun o => (hf ⟨g, o, none⟩ h2).trans (h3 o)⟩⟩
theorem NF.nil_ (w : World) (c : Nat) : NF w (.slice none 0 c) := fun A n c' e hn => by
  injection e with _ e2 _
  omega
theorem NF.of_own {w : World} {base E size n : Nat} {v : Value} {xs : List Value} (h : w.ownsRow base E size v n xs) : NF w v := fun A m c e hm => by
  rcases h.2 with ⟨rfl, _⟩ | ⟨b, cap, cur, rfl, _, hb, _⟩
  · injection e with _ e2 _
    omega
  · injection e with e1 e2 e3
    subst e1
    exact ⟨b, rfl, (Array.getElem?_eq_some_iff.1 hb).1, fun o => frozen_of_row w b o _ _ hb⟩
theorem OkC.of {w : World} {k n : Int} {X : ByteArray} {A A2 : Option Addr} {l c l2 c2 : Nat} (h3 : NF w (.slice A l c)) (h4 : NF w (.slice A2 l2 c2)) : OkC w [.int .i64 k, .int .i64 n, .string X, .slice A l c, .slice A2 l2 c2] := fun u hu => by
  simp only [List.mem_cons, List.not_mem_nil, or_false] at hu
  rcases hu with rfl | rfl | rfl | rfl | rfl
  · exact ⟨rfl, fun _ _ _ e => by cases e⟩
  · exact ⟨rfl, fun _ _ _ e => by cases e⟩
  · exact ⟨rfl, fun _ _ _ e => by cases e⟩
  · exact ⟨rfl, h3⟩
  · exact ⟨rfl, h4⟩
/-- what a reader of a value hands back: the value in new memory, with its tokens gone; or it gives up -/
def GivesP (rb : Nat) (vL : Value) (r : Rs V) (w : World) (e : Ending) (w' : World) : Prop :=
  w.grownBy w' (some rb) ∧
    (match r with
    | .ok v j q => ∃ c0 c1 c2 c3 c4 : Value, e = .returned (.agg #[c0, c1, c2, c3, c4]) ∧ OkC w' [c0, c1, c2, c3, c4] ∧ RdV w' w.heap.size w'.heap.size v [c0, c1, c2, c3, c4] ∧ Rdr w' rb vL j q
    | .bad a y => e = Gone a y)
section
variable {w w2 : World} {rb b t : Nat} {vL : Value} {i p : Nat} {u0 u1 u2 u3 u4 : Value}
theorem set5_rdr (h : Rdr w2 rb vL i p) (hb : b ≠ rb) (v0 v1 v2 v3 v4 : Value) :
    Rdr (((((w2.setCell ⟨b, 0, none⟩ v0).setCell ⟨b, 1, none⟩ v1).setCell ⟨b, 2, none⟩ v2).setCell ⟨b, 3, none⟩ v3).setCell ⟨b, 4, none⟩ v4) rb vL i p :=
  (((((h.far ⟨b, 0, none⟩ hb _).far ⟨b, 1, none⟩ hb _).far ⟨b, 2, none⟩ hb _).far ⟨b, 3, none⟩ hb _).far ⟨b, 4, none⟩ hb _)
end
theorem blk_fr {w w' : World} {rb b : Nat} (hf : w.grownBy w' (some rb)) (hb : b < w.heap.size) (hne : b ≠ rb) {o : Obj} (h : w.heap[b]? = some o) : w'.heap[b]? = some o :=
  (hf.block b hb (fun e => hne (Option.some.inj e))).trans h
theorem cells5 {w : World} {b t : Nat} {v0 v1 v2 v3 v4 : Value} {fr : Nat × Nat} (h : w.heap[b]? = some (.cells #[v0, v1, v2, v3, v4] t fr)) :
    w.cell? ⟨b, 0, none⟩ = some v0 ∧ w.cell? ⟨b, 1, none⟩ = some v1 ∧ w.cell? ⟨b, 2, none⟩ = some v2 ∧ w.cell? ⟨b, 3, none⟩ = some v3 ∧ w.cell? ⟨b, 4, none⟩ = some v4 :=
  ⟨(cell_of_row _ _ 0 _ _ _ h).trans rfl, (cell_of_row _ _ 1 _ _ _ h).trans rfl, (cell_of_row _ _ 2 _ _ _ h).trans rfl, (cell_of_row _ _ 3 _ _ _ h).trans rfl, (cell_of_row _ _ 4 _ _ _ h).trans rfl⟩
theorem frozen5 {w : World} {b t : Nat} {cs : Array Value} (h : w.heap[b]? = some (.cells cs t (0, 0))) :
    w.frozen? ⟨b, 0, none⟩ = false ∧ w.frozen? ⟨b, 1, none⟩ = false ∧ w.frozen? ⟨b, 2, none⟩ = false ∧ w.frozen? ⟨b, 3, none⟩ = false ∧ w.frozen? ⟨b, 4, none⟩ = false :=
  ⟨frozen_of_row _ _ 0 _ _ h, frozen_of_row _ _ 1 _ _ h, frozen_of_row _ _ 2 _ _ h, frozen_of_row _ _ 3 _ _ h, frozen_of_row _ _ 4 _ _ h⟩

set_option maxRecDepth 100000 in
set_option maxHeartbeats 4000000 in
theorem null_any (rb : Nat) (vL : Value) (ts : List Tok) (E : Int) (i p : Nat) (w : World) (hp : Rdr w rb vL i p) (hr : RdT w rb vL (withE ts E)) (hi : i ≤ ts.length) (hi2 : ts.length ≤ 4611686018427387904) :
    Calls Try.prog 35 #[.pointer (some ⟨rb, 0, none⟩)] w (GivesP rb vL (.ok (V.mk 1 0 [] [] [] []) (i + 1) p) w) := by
  have hlt := hp.cells.1
  obtain ⟨wa, hwa⟩ : ∃ wa, wa = w.alloc (.cells #[.int .i64 0, .int .i64 0, .string ⟨#[]⟩, .slice none 0 0, .slice none 0 0] 25) := ⟨_, rfl⟩
  have hba : Below w.heap.size w wa := by rw [hwa]; exact (Below.refl _ _).alloc (Nat.le_refl _) _
  have hsa : wa.heap.size = w.heap.size + 1 := by rw [hwa, szAlloc']
  have hza : wa.heap[w.heap.size]? = some (.cells #[.int .i64 0, .int .i64 0, .string ⟨#[]⟩, .slice none 0 0, .slice none 0 0] 25 (0, 0)) := by rw [hwa]; exact heap_alloc_new w _
  have ht := take_any rb vL ts E i p wa (hp.below hba) (RdT_fr hr (Nat.le_of_lt hlt) (Fr.of rb hba)) hi hi2
  rcases htk : tk ts E i with ⟨x1, x2, x3, x4⟩
  rw [htk] at ht
  unfold tokV at ht
  simp only at ht ⊢
  obtain ⟨X, hX⟩ : ∃ X, X = strOf x3 := ⟨_, rfl⟩
  rw [← hX] at ht
  have hfd1 : ∀ w : World, (Instr.field 47 (.agg #[.int .i64 x1, .int .i64 x2, .string X, .int .i64 x4]) 1).run Try.prog w = .ok (.int .i64 x2) w := fun _ => by kernel_rfl
  have hfd2 : ∀ w : World, (Instr.field 47 (.agg #[.int .i64 x1, .int .i64 x2, .string X, .int .i64 x4]) 2).run Try.prog w = .ok (.string X) w := fun _ => by kernel_rfl
  rw [hwa] at ht
  have HT := Lib.hid ht
  have HWA := Lib.hid hwa
  have HXX := Lib.hid hX
  have HFA := Lib.hid (Fr.of rb hba)
  clear ht hwa hX hp hr hba htk
  go_enter Try.func35, Try.ntmps35
  go_wp2_with fail
  refine HT.out.mono ?_
  rw [← HWA.out]
  rintro e w1 ⟨rfl, hf1, hp1⟩
  have hlt1 := hp1.cells.1
  have hz1 := blk_fr hf1 (by omega) (by omega) hza
  obtain ⟨z0, z1, z2, z3, z4⟩ := cells5 hz1
  obtain ⟨q0, q1, q2, q3, q4⟩ := frozen5 hz1
  have hn : w.heap.size ≠ rb := by omega
  have HP1 := Lib.hid hp1; clear hp1
  have HZ1 := Lib.hid hz1
  have HF1 := Lib.hid (Fr.trans HFA.out hf1)
  clear hz1 hza hf1
  go_wp2_with fail
  have R5 := set5_row HZ1.out (.int .i64 1) (.int .i64 0) (.string ⟨#[]⟩) (.slice none 0 0) (.slice none 0 0)
  have P5 := set5_rdr HP1.out hn (.int .i64 1) (.int .i64 0) (.string ⟨#[]⟩) (.slice none 0 0) (.slice none 0 0)
  have F5 := set5_fr HF1.out (Nat.le_refl _) (.int .i64 1) (.int .i64 0) (.string ⟨#[]⟩) (.slice none 0 0) (.slice none 0 0)
  refine bodyPost_ret (results5 rfl rfl R5) rfl ⟨F5, _, _, _, _, _, rfl, OkC.of (NF.nil_ _ _) (NF.nil_ _ _), RdV_leaf _ _ _ 1 0 [], P5⟩

set_option maxRecDepth 100000 in
set_option maxHeartbeats 4000000 in
theorem number_any5 (rb : Nat) (vL : Value) (ts : List Tok) (E : Int) (i p : Nat) (w : World) (hp : Rdr w rb vL i p) (hr : RdT w rb vL (withE ts E)) (hi : i ≤ ts.length) (hi2 : ts.length ≤ 4611686018427387904) :
    Calls Try.prog 37 #[.pointer (some ⟨rb, 0, none⟩)] w (GivesP rb vL (.ok (nmV (tk ts E i).2.1) (i + 1) p) w) := by
  have hlt := hp.cells.1
  obtain ⟨wa, hwa⟩ : ∃ wa, wa = w.alloc (.cells #[.int .i64 0, .int .i64 0, .string ⟨#[]⟩, .slice none 0 0, .slice none 0 0] 25) := ⟨_, rfl⟩
  have hba : Below w.heap.size w wa := by rw [hwa]; exact (Below.refl _ _).alloc (Nat.le_refl _) _
  have hsa : wa.heap.size = w.heap.size + 1 := by rw [hwa, szAlloc']
  have hza : wa.heap[w.heap.size]? = some (.cells #[.int .i64 0, .int .i64 0, .string ⟨#[]⟩, .slice none 0 0, .slice none 0 0] 25 (0, 0)) := by rw [hwa]; exact heap_alloc_new w _
  have ht := take_any rb vL ts E i p wa (hp.below hba) (RdT_fr hr (Nat.le_of_lt hlt) (Fr.of rb hba)) hi hi2
  rcases htk : tk ts E i with ⟨x1, x2, x3, x4⟩
  rw [htk] at ht
  unfold tokV at ht
  simp only at ht ⊢
  obtain ⟨X, hX⟩ : ∃ X, X = strOf x3 := ⟨_, rfl⟩
  rw [← hX] at ht
  have hfd1 : ∀ w : World, (Instr.field 47 (.agg #[.int .i64 x1, .int .i64 x2, .string X, .int .i64 x4]) 1).run Try.prog w = .ok (.int .i64 x2) w := fun _ => by kernel_rfl
  have hfd2 : ∀ w : World, (Instr.field 47 (.agg #[.int .i64 x1, .int .i64 x2, .string X, .int .i64 x4]) 2).run Try.prog w = .ok (.string X) w := fun _ => by kernel_rfl
  rw [hwa] at ht
  have HT := Lib.hid ht
  have HWA := Lib.hid hwa
  have HXX := Lib.hid hX
  have HFA := Lib.hid (Fr.of rb hba)
  clear ht hwa hX hp hr hba htk
  go_enter Try.func37, Try.ntmps37
  go_wp2_with fail
  refine HT.out.mono ?_
  rw [← HWA.out]
  rintro e w1 ⟨rfl, hf1, hp1⟩
  have hlt1 := hp1.cells.1
  have hz1 := blk_fr hf1 (by omega) (by omega) hza
  obtain ⟨z0, z1, z2, z3, z4⟩ := cells5 hz1
  obtain ⟨q0, q1, q2, q3, q4⟩ := frozen5 hz1
  have hn : w.heap.size ≠ rb := by omega
  have HP1 := Lib.hid hp1; clear hp1
  have HZ1 := Lib.hid hz1
  have HF1 := Lib.hid (Fr.trans HFA.out hf1)
  clear hz1 hza hf1
  go_wp2_with fail
  have R5 := set5_row HZ1.out (.int .i64 3) (.int .i64 x2) (.string ⟨#[]⟩) (.slice none 0 0) (.slice none 0 0)
  have P5 := set5_rdr HP1.out hn (.int .i64 3) (.int .i64 x2) (.string ⟨#[]⟩) (.slice none 0 0) (.slice none 0 0)
  have F5 := set5_fr HF1.out (Nat.le_refl _) (.int .i64 3) (.int .i64 x2) (.string ⟨#[]⟩) (.slice none 0 0) (.slice none 0 0)
  refine bodyPost_ret (results5 rfl rfl R5) rfl ⟨F5, _, _, _, _, _, rfl, OkC.of (NF.nil_ _ _) (NF.nil_ _ _), RdV_leaf _ _ _ 3 x2 [], P5⟩

set_option maxRecDepth 100000 in
set_option maxHeartbeats 4000000 in
theorem text_any5 (rb : Nat) (vL : Value) (ts : List Tok) (E : Int) (i p : Nat) (w : World) (hp : Rdr w rb vL i p) (hr : RdT w rb vL (withE ts E)) (hi : i ≤ ts.length) (hi2 : ts.length ≤ 4611686018427387904) :
    Calls Try.prog 38 #[.pointer (some ⟨rb, 0, none⟩)] w (GivesP rb vL (.ok (txV (tk ts E i).2.2.1) (i + 1) p) w) := by
  have hlt := hp.cells.1
  obtain ⟨wa, hwa⟩ : ∃ wa, wa = w.alloc (.cells #[.int .i64 0, .int .i64 0, .string ⟨#[]⟩, .slice none 0 0, .slice none 0 0] 25) := ⟨_, rfl⟩
  have hba : Below w.heap.size w wa := by rw [hwa]; exact (Below.refl _ _).alloc (Nat.le_refl _) _
  have hsa : wa.heap.size = w.heap.size + 1 := by rw [hwa, szAlloc']
  have hza : wa.heap[w.heap.size]? = some (.cells #[.int .i64 0, .int .i64 0, .string ⟨#[]⟩, .slice none 0 0, .slice none 0 0] 25 (0, 0)) := by rw [hwa]; exact heap_alloc_new w _
  have ht := take_any rb vL ts E i p wa (hp.below hba) (RdT_fr hr (Nat.le_of_lt hlt) (Fr.of rb hba)) hi hi2
  rcases htk : tk ts E i with ⟨x1, x2, x3, x4⟩
  rw [htk] at ht
  unfold tokV at ht
  simp only at ht ⊢
  obtain ⟨X, hX⟩ : ∃ X, X = strOf x3 := ⟨_, rfl⟩
  rw [← hX] at ht
  have hfd1 : ∀ w : World, (Instr.field 47 (.agg #[.int .i64 x1, .int .i64 x2, .string X, .int .i64 x4]) 1).run Try.prog w = .ok (.int .i64 x2) w := fun _ => by kernel_rfl
  have hfd2 : ∀ w : World, (Instr.field 47 (.agg #[.int .i64 x1, .int .i64 x2, .string X, .int .i64 x4]) 2).run Try.prog w = .ok (.string X) w := fun _ => by kernel_rfl
  rw [hwa] at ht
  have HT := Lib.hid ht
  have HWA := Lib.hid hwa
  have HXX := Lib.hid hX
  have HFA := Lib.hid (Fr.of rb hba)
  clear ht hwa hX hp hr hba htk
  go_enter Try.func38, Try.ntmps38
  go_wp2_with fail
  refine HT.out.mono ?_
  rw [← HWA.out]
  rintro e w1 ⟨rfl, hf1, hp1⟩
  have hlt1 := hp1.cells.1
  have hz1 := blk_fr hf1 (by omega) (by omega) hza
  obtain ⟨z0, z1, z2, z3, z4⟩ := cells5 hz1
  obtain ⟨q0, q1, q2, q3, q4⟩ := frozen5 hz1
  have hn : w.heap.size ≠ rb := by omega
  have HP1 := Lib.hid hp1; clear hp1
  have HZ1 := Lib.hid hz1
  have HF1 := Lib.hid (Fr.trans HFA.out hf1)
  clear hz1 hza hf1
  go_wp2_with fail
  have R5 := set5_row HZ1.out (.int .i64 4) (.int .i64 0) (.string X) (.slice none 0 0) (.slice none 0 0)
  have P5 := set5_rdr HP1.out hn (.int .i64 4) (.int .i64 0) (.string X) (.slice none 0 0) (.slice none 0 0)
  have F5 := set5_fr HF1.out (Nat.le_refl _) (.int .i64 4) (.int .i64 0) (.string X) (.slice none 0 0) (.slice none 0 0)
  refine bodyPost_ret (results5 rfl rfl R5) rfl ⟨F5, _, _, _, _, _, rfl, OkC.of (NF.nil_ _ _) (NF.nil_ _ _), by rw [HXX.out]; exact RdV_leaf _ _ _ 4 0 x3, P5⟩

set_option maxRecDepth 100000 in
set_option maxHeartbeats 4000000 in
theorem truth_yes (rb : Nat) (vL : Value) (ts : List Tok) (E : Int) (i p : Nat) (w : World) (hp : Rdr w rb vL i p) (hr : RdT w rb vL (withE ts E)) (hi : i ≤ ts.length) (hi2 : ts.length ≤ 4611686018427387904) (hk : (tk ts E i).2.2.1 = wTrue) :
    Calls Try.prog 36 #[.pointer (some ⟨rb, 0, none⟩)] w (GivesP rb vL (.ok (V.mk 2 1 [] [] [] []) (i + 1) p) w) := by
  have hlt := hp.cells.1
  obtain ⟨wa, hwa⟩ : ∃ wa, wa = (w.alloc (.cells #[.int .i64 0, .int .i64 0, .string ⟨#[]⟩, .slice none 0 0, .slice none 0 0] 25)).alloc (.cells #[.int .i64 2, .int .i64 0, .string ⟨#[]⟩, .slice none 0 0, .slice none 0 0] 25) := ⟨_, rfl⟩
  have hs1 : (w.alloc (.cells #[.int .i64 0, .int .i64 0, .string ⟨#[]⟩, .slice none 0 0, .slice none 0 0] 25)).heap.size = w.heap.size + 1 := szAlloc' _ _
  have hba : Below w.heap.size w wa := by rw [hwa]; exact ((Below.refl _ _).alloc (Nat.le_refl _) _).alloc (by rw [hs1]; omega) _
  have hsa : wa.heap.size = w.heap.size + 2 := by rw [hwa, szAlloc', szAlloc']
  have hza : wa.heap[w.heap.size]? = some (.cells #[.int .i64 0, .int .i64 0, .string ⟨#[]⟩, .slice none 0 0, .slice none 0 0] 25 (0, 0)) := by rw [hwa]; exact (heap_alloc_old _ _ (by rw [hs1]; omega)).trans (heap_alloc_new w _)
  have hzb : wa.heap[w.heap.size + 1]? = some (.cells #[.int .i64 2, .int .i64 0, .string ⟨#[]⟩, .slice none 0 0, .slice none 0 0] 25 (0, 0)) := by
    have := heap_alloc_new (w.alloc (.cells #[.int .i64 0, .int .i64 0, .string ⟨#[]⟩, .slice none 0 0, .slice none 0 0] 25)) (.cells #[.int .i64 2, .int .i64 0, .string ⟨#[]⟩, .slice none 0 0, .slice none 0 0] 25)
    rw [hs1] at this
    rw [hwa]; exact this
  have ht := take_any rb vL ts E i p wa (hp.below hba) (RdT_fr hr (Nat.le_of_lt hlt) (Fr.of rb hba)) hi hi2
  rcases htk : tk ts E i with ⟨x1, x2, x3, x4⟩
  rw [htk] at ht hk
  unfold tokV at ht
  simp only at ht hk
  have hXl := strOf_list x3
  generalize strOf x3 = X at *
  subst hXl
  have hfd2 : ∀ w : World, (Instr.field 47 (.agg #[.int .i64 x1, .int .i64 x2, .string X, .int .i64 x4]) 2).run Try.prog w = .ok (.string X) w := fun _ => by kernel_rfl
  have t1 : (X.toList == [116, 114, 117, 101]) = true := by rw [beq_iff_eq]; exact hk
  rw [hwa] at ht
  have HT := Lib.hid ht
  have HWA := Lib.hid hwa
  have HFA := Lib.hid (Fr.of rb hba)
  clear ht hwa hp hr hba htk hk
  go_enter Try.func36, Try.ntmps36
  go_wp2_with fail
  refine HT.out.mono ?_
  rw [← HWA.out]
  rintro e w1 ⟨rfl, hf1, hp1⟩
  have hlt1 := hp1.cells.1
  have hz1 := blk_fr hf1 (by omega) (by omega) hza
  have hy1 := blk_fr hf1 (by omega) (by omega) hzb
  obtain ⟨z0, z1, z2, z3, z4⟩ := cells5 hz1
  obtain ⟨q0, q1, q2, q3, q4⟩ := frozen5 hz1
  obtain ⟨y0, y1, y2, y3, y4⟩ := cells5 hy1
  obtain ⟨r0, r1, r2, r3, r4⟩ := frozen5 hy1
  have hn : w.heap.size ≠ rb := by omega
  have hn2 : w.heap.size + 1 ≠ rb := by omega
  have HP1 := Lib.hid hp1; clear hp1
  have HZ1 := Lib.hid hz1
  have HY1 := Lib.hid hy1
  have HF1 := Lib.hid (Fr.trans HFA.out hf1)
  clear hz1 hza hf1 hy1 hzb
  go_wp2_with fail
  have hz2 := (heap_setCell_other w1 ⟨w.heap.size + 1, 1, none⟩ w.heap.size (.int .i64 1) (by show w.heap.size ≠ w.heap.size + 1; omega)).trans HZ1.out
  have F2 := Fr.new HF1.out ⟨w.heap.size + 1, 1, none⟩ (by show w.heap.size ≤ w.heap.size + 1; omega) (.int .i64 1)
  have P2 := HP1.out.far ⟨w.heap.size + 1, 1, none⟩ hn2 (.int .i64 1)
  have R5 := set5_row hz2 (.int .i64 2) (.int .i64 1) (.string ⟨#[]⟩) (.slice none 0 0) (.slice none 0 0)
  have P5 := set5_rdr P2 hn (.int .i64 2) (.int .i64 1) (.string ⟨#[]⟩) (.slice none 0 0) (.slice none 0 0)
  have F5 := set5_fr F2 (Nat.le_refl _) (.int .i64 2) (.int .i64 1) (.string ⟨#[]⟩) (.slice none 0 0) (.slice none 0 0)
  refine bodyPost_ret (results5 rfl rfl R5) rfl ⟨F5, _, _, _, _, _, rfl, OkC.of (NF.nil_ _ _) (NF.nil_ _ _), RdV_leaf _ _ _ 2 1 [], P5⟩

set_option maxRecDepth 100000 in
set_option maxHeartbeats 4000000 in
theorem truth_no (rb : Nat) (vL : Value) (ts : List Tok) (E : Int) (i p : Nat) (w : World) (hp : Rdr w rb vL i p) (hr : RdT w rb vL (withE ts E)) (hi : i ≤ ts.length) (hi2 : ts.length ≤ 4611686018427387904) (hk : (tk ts E i).2.2.1 ≠ wTrue) :
    Calls Try.prog 36 #[.pointer (some ⟨rb, 0, none⟩)] w (GivesP rb vL (.ok (V.mk 2 0 [] [] [] []) (i + 1) p) w) := by
  have hlt := hp.cells.1
  obtain ⟨wa, hwa⟩ : ∃ wa, wa = (w.alloc (.cells #[.int .i64 0, .int .i64 0, .string ⟨#[]⟩, .slice none 0 0, .slice none 0 0] 25)).alloc (.cells #[.int .i64 2, .int .i64 0, .string ⟨#[]⟩, .slice none 0 0, .slice none 0 0] 25) := ⟨_, rfl⟩
  have hs1 : (w.alloc (.cells #[.int .i64 0, .int .i64 0, .string ⟨#[]⟩, .slice none 0 0, .slice none 0 0] 25)).heap.size = w.heap.size + 1 := szAlloc' _ _
  have hba : Below w.heap.size w wa := by rw [hwa]; exact ((Below.refl _ _).alloc (Nat.le_refl _) _).alloc (by rw [hs1]; omega) _
  have hsa : wa.heap.size = w.heap.size + 2 := by rw [hwa, szAlloc', szAlloc']
  have hza : wa.heap[w.heap.size]? = some (.cells #[.int .i64 0, .int .i64 0, .string ⟨#[]⟩, .slice none 0 0, .slice none 0 0] 25 (0, 0)) := by rw [hwa]; exact (heap_alloc_old _ _ (by rw [hs1]; omega)).trans (heap_alloc_new w _)
  have hzb : wa.heap[w.heap.size + 1]? = some (.cells #[.int .i64 2, .int .i64 0, .string ⟨#[]⟩, .slice none 0 0, .slice none 0 0] 25 (0, 0)) := by
    have := heap_alloc_new (w.alloc (.cells #[.int .i64 0, .int .i64 0, .string ⟨#[]⟩, .slice none 0 0, .slice none 0 0] 25)) (.cells #[.int .i64 2, .int .i64 0, .string ⟨#[]⟩, .slice none 0 0, .slice none 0 0] 25)
    rw [hs1] at this
    rw [hwa]; exact this
  have ht := take_any rb vL ts E i p wa (hp.below hba) (RdT_fr hr (Nat.le_of_lt hlt) (Fr.of rb hba)) hi hi2
  rcases htk : tk ts E i with ⟨x1, x2, x3, x4⟩
  rw [htk] at ht hk
  unfold tokV at ht
  simp only at ht hk
  have hXl := strOf_list x3
  generalize strOf x3 = X at *
  subst hXl
  have hfd2 : ∀ w : World, (Instr.field 47 (.agg #[.int .i64 x1, .int .i64 x2, .string X, .int .i64 x4]) 2).run Try.prog w = .ok (.string X) w := fun _ => by kernel_rfl
  have t1 : (X.toList == [116, 114, 117, 101]) = false := by rw [beq_eq_false_iff_ne]; exact hk
  rw [hwa] at ht
  have HT := Lib.hid ht
  have HWA := Lib.hid hwa
  have HFA := Lib.hid (Fr.of rb hba)
  clear ht hwa hp hr hba htk hk
  go_enter Try.func36, Try.ntmps36
  go_wp2_with fail
  refine HT.out.mono ?_
  rw [← HWA.out]
  rintro e w1 ⟨rfl, hf1, hp1⟩
  have hlt1 := hp1.cells.1
  have hz1 := blk_fr hf1 (by omega) (by omega) hza
  have hy1 := blk_fr hf1 (by omega) (by omega) hzb
  obtain ⟨z0, z1, z2, z3, z4⟩ := cells5 hz1
  obtain ⟨q0, q1, q2, q3, q4⟩ := frozen5 hz1
  obtain ⟨y0, y1, y2, y3, y4⟩ := cells5 hy1
  obtain ⟨r0, r1, r2, r3, r4⟩ := frozen5 hy1
  have hn : w.heap.size ≠ rb := by omega
  have hn2 : w.heap.size + 1 ≠ rb := by omega
  have HP1 := Lib.hid hp1; clear hp1
  have HZ1 := Lib.hid hz1
  have HY1 := Lib.hid hy1
  have HF1 := Lib.hid (Fr.trans HFA.out hf1)
  clear hz1 hza hf1 hy1 hzb
  go_wp2_with fail
  have R5 := set5_row HZ1.out (.int .i64 2) (.int .i64 0) (.string ⟨#[]⟩) (.slice none 0 0) (.slice none 0 0)
  have P5 := set5_rdr HP1.out hn (.int .i64 2) (.int .i64 0) (.string ⟨#[]⟩) (.slice none 0 0) (.slice none 0 0)
  have F5 := set5_fr HF1.out (Nat.le_refl _) (.int .i64 2) (.int .i64 0) (.string ⟨#[]⟩) (.slice none 0 0) (.slice none 0 0)
  refine bodyPost_ret (results5 rfl rfl R5) rfl ⟨F5, _, _, _, _, _, rfl, OkC.of (NF.nil_ _ _) (NF.nil_ _ _), RdV_leaf _ _ _ 2 0 [], P5⟩

end Go.Proofs.Ytcbiaflbncfliaa.Re
