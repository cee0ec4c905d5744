import Derived.Test.YtoflogckoepioaaDoorReC
/- Contracts of layer 5's document's answer: value, list, members. Written by tools/genReD.py. -/
namespace Go.Proofs.YtoflogckoepioaaDoor.Re
open Go.RowKit
open Go.Proofs.YtoflogckoepioaaDoor.Utf
open Go.Proofs.YtoflogckoepioaaDoor.Sc

/-- what a reader of a value hands back -/
def GivesV (pb : Nat) (vL : Value) (E : Int) (r : Rs V) (w : World) (e : Ending) (w' : World) : Prop :=
  w.grownBy w' (some pb) ∧ ∃ (k n : Int) (s : ByteArray) (A : Option Addr) (l c : Nat) (A2 : Option Addr) (m c2 : Nat), e = .returned (.agg #[.int .i64 k, .int .i64 n, .string s, .slice A l c, .slice A2 m c2]) ∧
    (match r with
    | .ok v j q => RdV w' w.heap.size w'.heap.size v [.int .i64 k, .int .i64 n, .string s, .slice A l c, .slice A2 m c2] ∧ Prs w' pb vL E j q 0 0
    | .bad a y => ∃ i p, Prs w' pb vL E i p a y)
theorem RdV_leaf (w : World) (lo hi : Nat) (k n : Int) (s : List UInt8) : RdV w lo hi (.mk k n s [] [] []) [.int .i64 k, .int .i64 n, .string (strOf s), .slice none 0 0, .slice none 0 0] := by
  rw [RdV]
  exact ⟨_, _, rfl, ⟨none, 0, rfl, fun h => absurd h (by simp)⟩, ⟨none, 0, rfl, rfl, fun h => absurd h (by simp)⟩⟩
section
variable {w w2 : World} {pb b t : Nat} {vL : Value} {E : Int} {i p : Nat} {a y : Int} {u0 u1 u2 u3 u4 : Value}
theorem set5_row (h : w2.heap[b]? = some (.cells #[u0, u1, u2, u3, u4] t (0, 0))) (v0 v1 v2 v3 v4 : Value) :
    (((((w2.setCell ⟨b, 0, none⟩ v0).setCell ⟨b, 1, none⟩ v1).setCell ⟨b, 2, none⟩ v2).setCell ⟨b, 3, none⟩ v3).setCell ⟨b, 4, none⟩ v4).heap[b]? = some (.cells #[v0, v1, v2, v3, v4] t (0, 0)) := by
  have b1 := heap_setCell_same _ b 0 _ _ v0 h
  have b2 := heap_setCell_same _ b 1 _ _ v1 b1
  have b3 := heap_setCell_same _ b 2 _ _ v2 b2
  have b4 := heap_setCell_same _ b 3 _ _ v3 b3
  exact heap_setCell_same _ b 4 _ _ v4 b4
theorem set5_fr (h : w.grownBy w2 (some pb)) (hb : w.heap.size ≤ b) (v0 v1 v2 v3 v4 : Value) :
    w.grownBy (((((w2.setCell ⟨b, 0, none⟩ v0).setCell ⟨b, 1, none⟩ v1).setCell ⟨b, 2, none⟩ v2).setCell ⟨b, 3, none⟩ v3).setCell ⟨b, 4, none⟩ v4) (some pb) :=
  Fr.new (Fr.new (Fr.new (Fr.new (Fr.new h ⟨b, 0, none⟩ hb _) ⟨b, 1, none⟩ hb _) ⟨b, 2, none⟩ hb _) ⟨b, 3, none⟩ hb _) ⟨b, 4, none⟩ hb _
theorem set5_prs (h : Prs w2 pb vL E i p a y) (hb : b ≠ pb) (v0 v1 v2 v3 v4 : Value) :
    Prs (((((w2.setCell ⟨b, 0, none⟩ v0).setCell ⟨b, 1, none⟩ v1).setCell ⟨b, 2, none⟩ v2).setCell ⟨b, 3, none⟩ v3).setCell ⟨b, 4, none⟩ v4) pb vL E i p a y :=
  (((((h.far ⟨b, 0, none⟩ hb _).far ⟨b, 1, none⟩ hb _).far ⟨b, 2, none⟩ hb _).far ⟨b, 3, none⟩ hb _).far ⟨b, 4, none⟩ hb _)
theorem Prs.alloc (h : Prs w pb vL E i p a y) (o : Obj) : Prs (w.alloc o) pb vL E i p a y := h.below ((Below.refl _ _).alloc (Nat.le_refl _) _)
end

set_option maxRecDepth 100000 in
set_option maxHeartbeats 4000000 in
theorem value_4 (pb : Nat) (vL : Value) (ts : List Tok) (E : Int) (d i p : Nat) (w : World) (hp : Prs w pb vL E i p 0 0) (hr : RdT w pb vL ts) (hi : i ≤ 4611686018427387904) (hpp : p ≤ 8192) (hd : ¬ 16 < d) (h8 : p ≠ 8192)
    (hk : (tk ts E i).1 = 4) :
    Calls Tryd.prog 13 #[.pointer (some ⟨pb, 0, none⟩), .int .i64 d] w (GivesV pb vL E (.ok (txV (tk ts E i).2.2.1) (i + 1) (p + 1)) w) := by
  have hpb := hp.cells.1
  obtain ⟨wa, hwa⟩ : ∃ wa, wa = w.alloc (.cells #[.int .i64 0, .int .i64 0, .string ⟨#[]⟩, .slice none 0 0, .slice none 0 0] 25) := ⟨_, rfl⟩
  have hba : Below w.heap.size w wa := by rw [hwa]; exact (Below.refl _ _).alloc (Nat.le_refl _) _
  have hsa : wa.heap.size = w.heap.size + 1 := by rw [hwa, szAlloc']
  have hza : wa.heap[w.heap.size]? = some (.cells #[.int .i64 0, .int .i64 0, .string ⟨#[]⟩, .slice none 0 0, .slice none 0 0] 25 (0, 0)) := by rw [hwa]; exact heap_alloc_new w _
  have hpa := hp.below hba
  have hra := RdT_fr hr (Nat.le_of_lt hpb) (Fr.of pb hba)
  have ht := token_any pb vL ts E i p 0 0 wa hpa (hra.more (by omega))
  rcases htk : tk ts E i with ⟨x1, x2, x3, x4⟩
  rw [htk] at ht hk
  simp only at hk
  unfold tokV at ht
  simp only at ht ⊢
  obtain ⟨X, hX⟩ : ∃ X, X = strOf x3 := ⟨_, rfl⟩
  have hXl : X.toList = x3 := by rw [hX, strOf_list]
  rw [← hX] at ht
  subst hk
  clear hXl
  have d1 : decide ((16 : Int) < (d : Int)) = false := decide_eq_false (by omega)
  have d2 : ((p : Int) == 8192) = false := by rw [beq_eq_false_iff_ne]; omega
  rw [hwa] at ht
  have HT := Lib.hid ht
  have HWA := Lib.hid hwa
  have HXX := Lib.hid hX
  have HRA := Lib.hid hra
  have HFA := Lib.hid (Fr.of pb hba)
  clear ht hwa hX hp hra htk hr hba
  go_enter Tryd.func13, Tryd.ntmps13
  go_wp2_with fail
  refine HT.out.mono ?_
  rw [← HWA.out]
  rintro e w1 ⟨rfl, hb1⟩
  have hp1 := hpa.below hb1
  have hrr := RdT_fr HRA.out (by omega) (Fr.of pb hb1)
  obtain ⟨hlt1, _, _, g2, g3, _, _, fz1⟩ := hp1.cells
  have f2 := fz1 2
  have f3 := fz1 3
  have hz1 : w1.heap[w.heap.size]? = _ := (hb1.block w.heap.size (by omega)).trans hza
  have z0 := (cell_of_row _ _ 0 _ _ _ hz1).trans rfl
  have z1 := (cell_of_row _ _ 1 _ _ _ hz1).trans rfl
  have z2 := (cell_of_row _ _ 2 _ _ _ hz1).trans rfl
  have z3 := (cell_of_row _ _ 3 _ _ _ hz1).trans rfl
  have z4 := (cell_of_row _ _ 4 _ _ _ hz1).trans rfl
  have q0 := frozen_of_row _ _ 0 _ _ hz1
  have q1 := frozen_of_row _ _ 1 _ _ hz1
  have q2 := frozen_of_row _ _ 2 _ _ hz1
  have q3 := frozen_of_row _ _ 3 _ _ hz1
  have q4 := frozen_of_row _ _ 4 _ _ hz1
  have hpn : pb ≠ w.heap.size := by omega
  have hlw : w.heap.size < w1.heap.size := by have := hb1.size; omega
  have hne1 : w.heap.size ≠ w1.heap.size := by omega
  have hne2 : pb ≠ w1.heap.size := by omega
  have HP1 := Lib.hid hp1; clear hp1
  have HZ1 := Lib.hid hz1
  have HRR := Lib.hid hrr; clear hrr
  have HF1 := Lib.hid (HFA.out.trans (Fr.of pb hb1))
  clear hz1 hza fz1 hpa
  go_wp2_with fail
  have FX := (HP1.out.setp (p + 1)).seti (i + 1)
  have FF := (HF1.out.trans (Fr.set w1 pb 3 (.int .i64 ((p + 1 : Nat) : Int)))).trans (Fr.set _ pb 2 (.int .i64 ((i + 1 : Nat) : Int)))
  have ZZ := ((heap_setCell_other _ ⟨pb, 2, none⟩ w.heap.size (.int .i64 ((i + 1 : Nat) : Int)) (fun e => hpn e.symm)).trans ((heap_setCell_other w1 ⟨pb, 3, none⟩ w.heap.size (.int .i64 ((p + 1 : Nat) : Int)) (fun e => hpn e.symm)).trans HZ1.out))
  have hn : w.heap.size ≠ pb := fun e => hpn e.symm
  have R5 := set5_row ZZ (.int .i64 4) (.int .i64 0) (.string X) (.slice none 0 0) (.slice none 0 0)
  have P5 := set5_prs FX hn (.int .i64 4) (.int .i64 0) (.string X) (.slice none 0 0) (.slice none 0 0)
  have F5 := set5_fr FF (Nat.le_refl _) (.int .i64 4) (.int .i64 0) (.string X) (.slice none 0 0) (.slice none 0 0)
  refine bodyPost_ret (results5 rfl rfl ((heap_alloc_old _ _ (by simp; omega)).trans R5)) rfl ⟨Fr.alloc F5 _, _, _, _, _, _, _, _, _, _, rfl, by rw [HXX.out]; exact RdV_leaf _ _ _ 4 0 x3, P5.alloc _⟩

set_option maxRecDepth 100000 in
set_option maxHeartbeats 4000000 in
theorem value_3 (pb : Nat) (vL : Value) (ts : List Tok) (E : Int) (d i p : Nat) (w : World) (hp : Prs w pb vL E i p 0 0) (hr : RdT w pb vL ts) (hi : i ≤ 4611686018427387904) (hpp : p ≤ 8192) (hd : ¬ 16 < d) (h8 : p ≠ 8192)
    (hk : (tk ts E i).1 = 3) :
    Calls Tryd.prog 13 #[.pointer (some ⟨pb, 0, none⟩), .int .i64 d] w (GivesV pb vL E (.ok (nmV (tk ts E i).2.1) (i + 1) (p + 1)) w) := by
  have hpb := hp.cells.1
  obtain ⟨wa, hwa⟩ : ∃ wa, wa = w.alloc (.cells #[.int .i64 0, .int .i64 0, .string ⟨#[]⟩, .slice none 0 0, .slice none 0 0] 25) := ⟨_, rfl⟩
  have hba : Below w.heap.size w wa := by rw [hwa]; exact (Below.refl _ _).alloc (Nat.le_refl _) _
  have hsa : wa.heap.size = w.heap.size + 1 := by rw [hwa, szAlloc']
  have hza : wa.heap[w.heap.size]? = some (.cells #[.int .i64 0, .int .i64 0, .string ⟨#[]⟩, .slice none 0 0, .slice none 0 0] 25 (0, 0)) := by rw [hwa]; exact heap_alloc_new w _
  have hpa := hp.below hba
  have hra := RdT_fr hr (Nat.le_of_lt hpb) (Fr.of pb hba)
  have ht := token_any pb vL ts E i p 0 0 wa hpa (hra.more (by omega))
  rcases htk : tk ts E i with ⟨x1, x2, x3, x4⟩
  rw [htk] at ht hk
  simp only at hk
  unfold tokV at ht
  simp only at ht ⊢
  obtain ⟨X, hX⟩ : ∃ X, X = strOf x3 := ⟨_, rfl⟩
  have hXl : X.toList = x3 := by rw [hX, strOf_list]
  rw [← hX] at ht
  subst hk
  clear hXl
  have d1 : decide ((16 : Int) < (d : Int)) = false := decide_eq_false (by omega)
  have d2 : ((p : Int) == 8192) = false := by rw [beq_eq_false_iff_ne]; omega
  rw [hwa] at ht
  have HT := Lib.hid ht
  have HWA := Lib.hid hwa
  have HXX := Lib.hid hX
  have HRA := Lib.hid hra
  have HFA := Lib.hid (Fr.of pb hba)
  clear ht hwa hX hp hra htk hr hba
  go_enter Tryd.func13, Tryd.ntmps13
  go_wp2_with fail
  refine HT.out.mono ?_
  rw [← HWA.out]
  rintro e w1 ⟨rfl, hb1⟩
  have hp1 := hpa.below hb1
  have hrr := RdT_fr HRA.out (by omega) (Fr.of pb hb1)
  obtain ⟨hlt1, _, _, g2, g3, _, _, fz1⟩ := hp1.cells
  have f2 := fz1 2
  have f3 := fz1 3
  have hz1 : w1.heap[w.heap.size]? = _ := (hb1.block w.heap.size (by omega)).trans hza
  have z0 := (cell_of_row _ _ 0 _ _ _ hz1).trans rfl
  have z1 := (cell_of_row _ _ 1 _ _ _ hz1).trans rfl
  have z2 := (cell_of_row _ _ 2 _ _ _ hz1).trans rfl
  have z3 := (cell_of_row _ _ 3 _ _ _ hz1).trans rfl
  have z4 := (cell_of_row _ _ 4 _ _ _ hz1).trans rfl
  have q0 := frozen_of_row _ _ 0 _ _ hz1
  have q1 := frozen_of_row _ _ 1 _ _ hz1
  have q2 := frozen_of_row _ _ 2 _ _ hz1
  have q3 := frozen_of_row _ _ 3 _ _ hz1
  have q4 := frozen_of_row _ _ 4 _ _ hz1
  have hpn : pb ≠ w.heap.size := by omega
  have hlw : w.heap.size < w1.heap.size := by have := hb1.size; omega
  have hne1 : w.heap.size ≠ w1.heap.size := by omega
  have hne2 : pb ≠ w1.heap.size := by omega
  have HP1 := Lib.hid hp1; clear hp1
  have HZ1 := Lib.hid hz1
  have HRR := Lib.hid hrr; clear hrr
  have HF1 := Lib.hid (HFA.out.trans (Fr.of pb hb1))
  clear hz1 hza fz1 hpa
  go_wp2_with fail
  have FX := (HP1.out.setp (p + 1)).seti (i + 1)
  have FF := (HF1.out.trans (Fr.set w1 pb 3 (.int .i64 ((p + 1 : Nat) : Int)))).trans (Fr.set _ pb 2 (.int .i64 ((i + 1 : Nat) : Int)))
  have ZZ := ((heap_setCell_other _ ⟨pb, 2, none⟩ w.heap.size (.int .i64 ((i + 1 : Nat) : Int)) (fun e => hpn e.symm)).trans ((heap_setCell_other w1 ⟨pb, 3, none⟩ w.heap.size (.int .i64 ((p + 1 : Nat) : Int)) (fun e => hpn e.symm)).trans HZ1.out))
  have hn : w.heap.size ≠ pb := fun e => hpn e.symm
  have R5 := set5_row ZZ (.int .i64 3) (.int .i64 x2) (.string ⟨#[]⟩) (.slice none 0 0) (.slice none 0 0)
  have P5 := set5_prs FX hn (.int .i64 3) (.int .i64 x2) (.string ⟨#[]⟩) (.slice none 0 0) (.slice none 0 0)
  have F5 := set5_fr FF (Nat.le_refl _) (.int .i64 3) (.int .i64 x2) (.string ⟨#[]⟩) (.slice none 0 0) (.slice none 0 0)
  refine bodyPost_ret (results5 rfl rfl ((heap_alloc_old _ _ (by simp; omega)).trans R5)) rfl ⟨Fr.alloc F5 _, _, _, _, _, _, _, _, _, _, rfl, RdV_leaf _ _ _ 3 x2 [], P5.alloc _⟩

set_option maxRecDepth 100000 in
set_option maxHeartbeats 4000000 in
theorem value_null (pb : Nat) (vL : Value) (ts : List Tok) (E : Int) (d i p : Nat) (w : World) (hp : Prs w pb vL E i p 0 0) (hr : RdT w pb vL ts) (hi : i ≤ 4611686018427387904) (hpp : p ≤ 8192) (hd : ¬ 16 < d) (h8 : p ≠ 8192)
    (hk : (tk ts E i).1 = 2 ∧ (tk ts E i).2.2.1 = wNull) :
    Calls Tryd.prog 13 #[.pointer (some ⟨pb, 0, none⟩), .int .i64 d] w (GivesV pb vL E (.ok (wdV wNull) (i + 1) (p + 1)) w) := by
  have hpb := hp.cells.1
  obtain ⟨wa, hwa⟩ : ∃ wa, wa = w.alloc (.cells #[.int .i64 0, .int .i64 0, .string ⟨#[]⟩, .slice none 0 0, .slice none 0 0] 25) := ⟨_, rfl⟩
  have hba : Below w.heap.size w wa := by rw [hwa]; exact (Below.refl _ _).alloc (Nat.le_refl _) _
  have hsa : wa.heap.size = w.heap.size + 1 := by rw [hwa, szAlloc']
  have hza : wa.heap[w.heap.size]? = some (.cells #[.int .i64 0, .int .i64 0, .string ⟨#[]⟩, .slice none 0 0, .slice none 0 0] 25 (0, 0)) := by rw [hwa]; exact heap_alloc_new w _
  have hpa := hp.below hba
  have hra := RdT_fr hr (Nat.le_of_lt hpb) (Fr.of pb hba)
  have ht := token_any pb vL ts E i p 0 0 wa hpa (hra.more (by omega))
  rcases htk : tk ts E i with ⟨x1, x2, x3, x4⟩
  rw [htk] at ht hk
  simp only at hk
  unfold tokV at ht
  simp only at ht ⊢
  obtain ⟨X, hX⟩ : ∃ X, X = strOf x3 := ⟨_, rfl⟩
  have hXl : X.toList = x3 := by rw [hX, strOf_list]
  rw [← hX] at ht
  obtain ⟨rfl, rfl⟩ := hk
  rw [show wNull = [110, 117, 108, 108] from rfl] at hXl
  have d1 : decide ((16 : Int) < (d : Int)) = false := decide_eq_false (by omega)
  have d2 : ((p : Int) == 8192) = false := by rw [beq_eq_false_iff_ne]; omega
  rw [hwa] at ht
  have HT := Lib.hid ht
  have HWA := Lib.hid hwa
  have HXX := Lib.hid hX
  have HRA := Lib.hid hra
  have HFA := Lib.hid (Fr.of pb hba)
  clear ht hwa hX hp hra htk hr hba
  go_enter Tryd.func13, Tryd.ntmps13
  go_wp2_with fail
  refine HT.out.mono ?_
  rw [← HWA.out]
  rintro e w1 ⟨rfl, hb1⟩
  have hp1 := hpa.below hb1
  have hrr := RdT_fr HRA.out (by omega) (Fr.of pb hb1)
  obtain ⟨hlt1, _, _, g2, g3, _, _, fz1⟩ := hp1.cells
  have f2 := fz1 2
  have f3 := fz1 3
  have hz1 : w1.heap[w.heap.size]? = _ := (hb1.block w.heap.size (by omega)).trans hza
  have z0 := (cell_of_row _ _ 0 _ _ _ hz1).trans rfl
  have z1 := (cell_of_row _ _ 1 _ _ _ hz1).trans rfl
  have z2 := (cell_of_row _ _ 2 _ _ _ hz1).trans rfl
  have z3 := (cell_of_row _ _ 3 _ _ _ hz1).trans rfl
  have z4 := (cell_of_row _ _ 4 _ _ _ hz1).trans rfl
  have q0 := frozen_of_row _ _ 0 _ _ hz1
  have q1 := frozen_of_row _ _ 1 _ _ hz1
  have q2 := frozen_of_row _ _ 2 _ _ hz1
  have q3 := frozen_of_row _ _ 3 _ _ hz1
  have q4 := frozen_of_row _ _ 4 _ _ hz1
  have hpn : pb ≠ w.heap.size := by omega
  have hlw : w.heap.size < w1.heap.size := by have := hb1.size; omega
  have hne1 : w.heap.size ≠ w1.heap.size := by omega
  have hne2 : pb ≠ w1.heap.size := by omega
  have HP1 := Lib.hid hp1; clear hp1
  have HZ1 := Lib.hid hz1
  have HRR := Lib.hid hrr; clear hrr
  have HF1 := Lib.hid (HFA.out.trans (Fr.of pb hb1))
  clear hz1 hza fz1 hpa
  go_wp2_with fail
  have FX := (HP1.out.setp (p + 1)).seti (i + 1)
  have FF := (HF1.out.trans (Fr.set w1 pb 3 (.int .i64 ((p + 1 : Nat) : Int)))).trans (Fr.set _ pb 2 (.int .i64 ((i + 1 : Nat) : Int)))
  have ZZ := ((heap_setCell_other _ ⟨pb, 2, none⟩ w.heap.size (.int .i64 ((i + 1 : Nat) : Int)) (fun e => hpn e.symm)).trans ((heap_setCell_other w1 ⟨pb, 3, none⟩ w.heap.size (.int .i64 ((p + 1 : Nat) : Int)) (fun e => hpn e.symm)).trans HZ1.out))
  have hn : w.heap.size ≠ pb := fun e => hpn e.symm
  have R5 := set5_row ZZ (.int .i64 1) (.int .i64 0) (.string ⟨#[]⟩) (.slice none 0 0) (.slice none 0 0)
  have P5 := set5_prs FX hn (.int .i64 1) (.int .i64 0) (.string ⟨#[]⟩) (.slice none 0 0) (.slice none 0 0)
  have F5 := set5_fr FF (Nat.le_refl _) (.int .i64 1) (.int .i64 0) (.string ⟨#[]⟩) (.slice none 0 0) (.slice none 0 0)
  refine bodyPost_ret (results5 rfl rfl ((heap_alloc_old _ _ (by simp; omega)).trans R5)) rfl ⟨Fr.alloc F5 _, _, _, _, _, _, _, _, _, _, rfl, RdV_leaf _ _ _ 1 0 [], P5.alloc _⟩

set_option maxRecDepth 100000 in
set_option maxHeartbeats 4000000 in
theorem value_true (pb : Nat) (vL : Value) (ts : List Tok) (E : Int) (d i p : Nat) (w : World) (hp : Prs w pb vL E i p 0 0) (hr : RdT w pb vL ts) (hi : i ≤ 4611686018427387904) (hpp : p ≤ 8192) (hd : ¬ 16 < d) (h8 : p ≠ 8192)
    (hk : (tk ts E i).1 = 2 ∧ (tk ts E i).2.2.1 = wTrue) :
    Calls Tryd.prog 13 #[.pointer (some ⟨pb, 0, none⟩), .int .i64 d] w (GivesV pb vL E (.ok (wdV wTrue) (i + 1) (p + 1)) w) := by
  have hpb := hp.cells.1
  obtain ⟨wa, hwa⟩ : ∃ wa, wa = w.alloc (.cells #[.int .i64 0, .int .i64 0, .string ⟨#[]⟩, .slice none 0 0, .slice none 0 0] 25) := ⟨_, rfl⟩
  have hba : Below w.heap.size w wa := by rw [hwa]; exact (Below.refl _ _).alloc (Nat.le_refl _) _
  have hsa : wa.heap.size = w.heap.size + 1 := by rw [hwa, szAlloc']
  have hza : wa.heap[w.heap.size]? = some (.cells #[.int .i64 0, .int .i64 0, .string ⟨#[]⟩, .slice none 0 0, .slice none 0 0] 25 (0, 0)) := by rw [hwa]; exact heap_alloc_new w _
  have hpa := hp.below hba
  have hra := RdT_fr hr (Nat.le_of_lt hpb) (Fr.of pb hba)
  have ht := token_any pb vL ts E i p 0 0 wa hpa (hra.more (by omega))
  rcases htk : tk ts E i with ⟨x1, x2, x3, x4⟩
  rw [htk] at ht hk
  simp only at hk
  unfold tokV at ht
  simp only at ht ⊢
  obtain ⟨X, hX⟩ : ∃ X, X = strOf x3 := ⟨_, rfl⟩
  have hXl : X.toList = x3 := by rw [hX, strOf_list]
  rw [← hX] at ht
  obtain ⟨rfl, rfl⟩ := hk
  rw [show wTrue = [116, 114, 117, 101] from rfl] at hXl
  have d1 : decide ((16 : Int) < (d : Int)) = false := decide_eq_false (by omega)
  have d2 : ((p : Int) == 8192) = false := by rw [beq_eq_false_iff_ne]; omega
  rw [hwa] at ht
  have HT := Lib.hid ht
  have HWA := Lib.hid hwa
  have HXX := Lib.hid hX
  have HRA := Lib.hid hra
  have HFA := Lib.hid (Fr.of pb hba)
  clear ht hwa hX hp hra htk hr hba
  go_enter Tryd.func13, Tryd.ntmps13
  go_wp2_with fail
  refine HT.out.mono ?_
  rw [← HWA.out]
  rintro e w1 ⟨rfl, hb1⟩
  have hp1 := hpa.below hb1
  have hrr := RdT_fr HRA.out (by omega) (Fr.of pb hb1)
  obtain ⟨hlt1, _, _, g2, g3, _, _, fz1⟩ := hp1.cells
  have f2 := fz1 2
  have f3 := fz1 3
  have hz1 : w1.heap[w.heap.size]? = _ := (hb1.block w.heap.size (by omega)).trans hza
  have z0 := (cell_of_row _ _ 0 _ _ _ hz1).trans rfl
  have z1 := (cell_of_row _ _ 1 _ _ _ hz1).trans rfl
  have z2 := (cell_of_row _ _ 2 _ _ _ hz1).trans rfl
  have z3 := (cell_of_row _ _ 3 _ _ _ hz1).trans rfl
  have z4 := (cell_of_row _ _ 4 _ _ _ hz1).trans rfl
  have q0 := frozen_of_row _ _ 0 _ _ hz1
  have q1 := frozen_of_row _ _ 1 _ _ hz1
  have q2 := frozen_of_row _ _ 2 _ _ hz1
  have q3 := frozen_of_row _ _ 3 _ _ hz1
  have q4 := frozen_of_row _ _ 4 _ _ hz1
  have hpn : pb ≠ w.heap.size := by omega
  have hlw : w.heap.size < w1.heap.size := by have := hb1.size; omega
  have hne1 : w.heap.size ≠ w1.heap.size := by omega
  have hne2 : pb ≠ w1.heap.size := by omega
  have HP1 := Lib.hid hp1; clear hp1
  have HZ1 := Lib.hid hz1
  have HRR := Lib.hid hrr; clear hrr
  have HF1 := Lib.hid (HFA.out.trans (Fr.of pb hb1))
  clear hz1 hza fz1 hpa
  go_wp2_with fail
  have FX := (HP1.out.setp (p + 1)).seti (i + 1)
  have FF := (HF1.out.trans (Fr.set w1 pb 3 (.int .i64 ((p + 1 : Nat) : Int)))).trans (Fr.set _ pb 2 (.int .i64 ((i + 1 : Nat) : Int)))
  have ZZ := ((heap_setCell_other _ ⟨pb, 2, none⟩ w.heap.size (.int .i64 ((i + 1 : Nat) : Int)) (fun e => hpn e.symm)).trans ((heap_setCell_other w1 ⟨pb, 3, none⟩ w.heap.size (.int .i64 ((p + 1 : Nat) : Int)) (fun e => hpn e.symm)).trans HZ1.out))
  have hn : w.heap.size ≠ pb := fun e => hpn e.symm
  have R5 := set5_row ZZ (.int .i64 2) (.int .i64 1) (.string ⟨#[]⟩) (.slice none 0 0) (.slice none 0 0)
  have P5 := set5_prs FX hn (.int .i64 2) (.int .i64 1) (.string ⟨#[]⟩) (.slice none 0 0) (.slice none 0 0)
  have F5 := set5_fr FF (Nat.le_refl _) (.int .i64 2) (.int .i64 1) (.string ⟨#[]⟩) (.slice none 0 0) (.slice none 0 0)
  refine bodyPost_ret (results5 rfl rfl ((heap_alloc_old _ _ (by simp; omega)).trans R5)) rfl ⟨Fr.alloc F5 _, _, _, _, _, _, _, _, _, _, rfl, RdV_leaf _ _ _ 2 1 [], P5.alloc _⟩

set_option maxRecDepth 100000 in
set_option maxHeartbeats 4000000 in
theorem value_false (pb : Nat) (vL : Value) (ts : List Tok) (E : Int) (d i p : Nat) (w : World) (hp : Prs w pb vL E i p 0 0) (hr : RdT w pb vL ts) (hi : i ≤ 4611686018427387904) (hpp : p ≤ 8192) (hd : ¬ 16 < d) (h8 : p ≠ 8192)
    (hk : (tk ts E i).1 = 2 ∧ (tk ts E i).2.2.1 = wFalse) :
    Calls Tryd.prog 13 #[.pointer (some ⟨pb, 0, none⟩), .int .i64 d] w (GivesV pb vL E (.ok (wdV wFalse) (i + 1) (p + 1)) w) := by
  have hpb := hp.cells.1
  obtain ⟨wa, hwa⟩ : ∃ wa, wa = w.alloc (.cells #[.int .i64 0, .int .i64 0, .string ⟨#[]⟩, .slice none 0 0, .slice none 0 0] 25) := ⟨_, rfl⟩
  have hba : Below w.heap.size w wa := by rw [hwa]; exact (Below.refl _ _).alloc (Nat.le_refl _) _
  have hsa : wa.heap.size = w.heap.size + 1 := by rw [hwa, szAlloc']
  have hza : wa.heap[w.heap.size]? = some (.cells #[.int .i64 0, .int .i64 0, .string ⟨#[]⟩, .slice none 0 0, .slice none 0 0] 25 (0, 0)) := by rw [hwa]; exact heap_alloc_new w _
  have hpa := hp.below hba
  have hra := RdT_fr hr (Nat.le_of_lt hpb) (Fr.of pb hba)
  have ht := token_any pb vL ts E i p 0 0 wa hpa (hra.more (by omega))
  rcases htk : tk ts E i with ⟨x1, x2, x3, x4⟩
  rw [htk] at ht hk
  simp only at hk
  unfold tokV at ht
  simp only at ht ⊢
  obtain ⟨X, hX⟩ : ∃ X, X = strOf x3 := ⟨_, rfl⟩
  have hXl : X.toList = x3 := by rw [hX, strOf_list]
  rw [← hX] at ht
  obtain ⟨rfl, rfl⟩ := hk
  rw [show wFalse = [102, 97, 108, 115, 101] from rfl] at hXl
  have d1 : decide ((16 : Int) < (d : Int)) = false := decide_eq_false (by omega)
  have d2 : ((p : Int) == 8192) = false := by rw [beq_eq_false_iff_ne]; omega
  rw [hwa] at ht
  have HT := Lib.hid ht
  have HWA := Lib.hid hwa
  have HXX := Lib.hid hX
  have HRA := Lib.hid hra
  have HFA := Lib.hid (Fr.of pb hba)
  clear ht hwa hX hp hra htk hr hba
  go_enter Tryd.func13, Tryd.ntmps13
  go_wp2_with fail
  refine HT.out.mono ?_
  rw [← HWA.out]
  rintro e w1 ⟨rfl, hb1⟩
  have hp1 := hpa.below hb1
  have hrr := RdT_fr HRA.out (by omega) (Fr.of pb hb1)
  obtain ⟨hlt1, _, _, g2, g3, _, _, fz1⟩ := hp1.cells
  have f2 := fz1 2
  have f3 := fz1 3
  have hz1 : w1.heap[w.heap.size]? = _ := (hb1.block w.heap.size (by omega)).trans hza
  have z0 := (cell_of_row _ _ 0 _ _ _ hz1).trans rfl
  have z1 := (cell_of_row _ _ 1 _ _ _ hz1).trans rfl
  have z2 := (cell_of_row _ _ 2 _ _ _ hz1).trans rfl
  have z3 := (cell_of_row _ _ 3 _ _ _ hz1).trans rfl
  have z4 := (cell_of_row _ _ 4 _ _ _ hz1).trans rfl
  have q0 := frozen_of_row _ _ 0 _ _ hz1
  have q1 := frozen_of_row _ _ 1 _ _ hz1
  have q2 := frozen_of_row _ _ 2 _ _ hz1
  have q3 := frozen_of_row _ _ 3 _ _ hz1
  have q4 := frozen_of_row _ _ 4 _ _ hz1
  have hpn : pb ≠ w.heap.size := by omega
  have hlw : w.heap.size < w1.heap.size := by have := hb1.size; omega
  have hne1 : w.heap.size ≠ w1.heap.size := by omega
  have hne2 : pb ≠ w1.heap.size := by omega
  have HP1 := Lib.hid hp1; clear hp1
  have HZ1 := Lib.hid hz1
  have HRR := Lib.hid hrr; clear hrr
  have HF1 := Lib.hid (HFA.out.trans (Fr.of pb hb1))
  clear hz1 hza fz1 hpa
  go_wp2_with fail
  have FX := (HP1.out.setp (p + 1)).seti (i + 1)
  have FF := (HF1.out.trans (Fr.set w1 pb 3 (.int .i64 ((p + 1 : Nat) : Int)))).trans (Fr.set _ pb 2 (.int .i64 ((i + 1 : Nat) : Int)))
  have ZZ := ((heap_setCell_other _ ⟨pb, 2, none⟩ w.heap.size (.int .i64 ((i + 1 : Nat) : Int)) (fun e => hpn e.symm)).trans ((heap_setCell_other w1 ⟨pb, 3, none⟩ w.heap.size (.int .i64 ((p + 1 : Nat) : Int)) (fun e => hpn e.symm)).trans HZ1.out))
  have hn : w.heap.size ≠ pb := fun e => hpn e.symm
  have R5 := set5_row ZZ (.int .i64 2) (.int .i64 0) (.string ⟨#[]⟩) (.slice none 0 0) (.slice none 0 0)
  have P5 := set5_prs FX hn (.int .i64 2) (.int .i64 0) (.string ⟨#[]⟩) (.slice none 0 0) (.slice none 0 0)
  have F5 := set5_fr FF (Nat.le_refl _) (.int .i64 2) (.int .i64 0) (.string ⟨#[]⟩) (.slice none 0 0) (.slice none 0 0)
  refine bodyPost_ret (results5 rfl rfl ((heap_alloc_old _ _ (by simp; omega)).trans R5)) rfl ⟨Fr.alloc F5 _, _, _, _, _, _, _, _, _, _, rfl, RdV_leaf _ _ _ 2 0 [], P5.alloc _⟩

set_option maxRecDepth 100000 in
set_option maxHeartbeats 4000000 in
theorem value_f0 (pb : Nat) (vL : Value) (ts : List Tok) (E : Int) (d i p : Nat) (w : World) (hp : Prs w pb vL E i p 0 0) (hr : RdT w pb vL ts) (_hi : i ≤ 4611686018427387904) (_hpp : p ≤ 8192)
    (hk : (tk ts E i).1 = 0) :
    Calls Tryd.prog 13 #[.pointer (some ⟨pb, 0, none⟩), .int .i64 d] w (GivesV pb vL E (.bad (tk ts E i).2.2.2 50) w) := by
  have hpb := hp.cells.1
  obtain ⟨wa, hwa⟩ : ∃ wa, wa = w.alloc (.cells #[.int .i64 0, .int .i64 0, .string ⟨#[]⟩, .slice none 0 0, .slice none 0 0] 25) := ⟨_, rfl⟩
  have hba : Below w.heap.size w wa := by rw [hwa]; exact (Below.refl _ _).alloc (Nat.le_refl _) _
  have hsa : wa.heap.size = w.heap.size + 1 := by rw [hwa, szAlloc']
  have hza : wa.heap[w.heap.size]? = some (.cells #[.int .i64 0, .int .i64 0, .string ⟨#[]⟩, .slice none 0 0, .slice none 0 0] 25 (0, 0)) := by rw [hwa]; exact heap_alloc_new w _
  have hpa := hp.below hba
  have hra := RdT_fr hr (Nat.le_of_lt hpb) (Fr.of pb hba)
  have ht := token_any pb vL ts E i p 0 0 wa hpa (hra.more (by omega))
  rcases htk : tk ts E i with ⟨x1, x2, x3, x4⟩
  rw [htk] at ht hk
  have HTK := Lib.hid htk
  simp only at hk
  unfold tokV at ht
  simp only at ht ⊢
  obtain ⟨X, hX⟩ : ∃ X, X = strOf x3 := ⟨_, rfl⟩
  have hXl : X.toList = x3 := by rw [hX, strOf_list]
  rw [← hX] at ht
  subst hk
  clear hXl
  rw [hwa] at ht
  have HT := Lib.hid ht
  have HWA := Lib.hid hwa
  have HXX := Lib.hid hX
  have HRA := Lib.hid hra
  have HFA := Lib.hid (Fr.of pb hba)
  clear ht hwa hX hp hra htk hr hba
  go_enter Tryd.func13, Tryd.ntmps13
  go_wp2_with fail
  refine HT.out.mono ?_
  rw [← HWA.out]
  rintro e w1 ⟨rfl, hb1⟩
  have hp1 := hpa.below hb1
  have hrr := RdT_fr HRA.out (by omega) (Fr.of pb hb1)
  obtain ⟨hlt1, _, _, g2, g3, _, _, fz1⟩ := hp1.cells
  have f2 := fz1 2
  have f3 := fz1 3
  have hz1 : w1.heap[w.heap.size]? = _ := (hb1.block w.heap.size (by omega)).trans hza
  have z0 := (cell_of_row _ _ 0 _ _ _ hz1).trans rfl
  have z1 := (cell_of_row _ _ 1 _ _ _ hz1).trans rfl
  have z2 := (cell_of_row _ _ 2 _ _ _ hz1).trans rfl
  have z3 := (cell_of_row _ _ 3 _ _ _ hz1).trans rfl
  have z4 := (cell_of_row _ _ 4 _ _ _ hz1).trans rfl
  have q0 := frozen_of_row _ _ 0 _ _ hz1
  have q1 := frozen_of_row _ _ 1 _ _ hz1
  have q2 := frozen_of_row _ _ 2 _ _ hz1
  have q3 := frozen_of_row _ _ 3 _ _ hz1
  have q4 := frozen_of_row _ _ 4 _ _ hz1
  have hpn : pb ≠ w.heap.size := by omega
  have hlw : w.heap.size < w1.heap.size := by have := hb1.size; omega
  have hne1 : w.heap.size ≠ w1.heap.size := by omega
  have hne2 : pb ≠ w1.heap.size := by omega
  have HP1 := Lib.hid hp1; clear hp1
  have HZ1 := Lib.hid hz1
  have HRR := Lib.hid hrr; clear hrr
  have HF1 := Lib.hid (HFA.out.trans (Fr.of pb hb1))
  clear hz1 hza fz1 hpa
  go_wp2_with fail
  have hpq := HP1.out.alloc (.cells #[.int .i64 0, .int .i64 x2, .string X, .int .i64 x4] 44)
  have haq : Below w1.heap.size w1 (w1.alloc (.cells #[.int .i64 0, .int .i64 x2, .string X, .int .i64 x4] 44)) := (Below.refl _ _).alloc (Nat.le_refl _) _
  have hrq := RdT_fr HRR.out (by omega) (Fr.of pb haq)
  have HFL := Lib.hid (fail_any pb vL ts E i p 0 50 _ hpq hrq)
  have HZQ := Lib.hid ((heap_alloc_old w1 (.cells #[.int .i64 0, .int .i64 x2, .string X, .int .i64 x4] 44) hlw).trans HZ1.out)
  clear hpq hrq
  refine HFL.out.mono ?_
  rintro e w3 ⟨rfl, hf3, hp3⟩
  have hz3 : w3.heap[w.heap.size]? = _ := (hf3.block w.heap.size (by simp; omega) (fun e => hpn (Option.some.inj e).symm)).trans HZQ.out
  clear z0 z1 z2 z3 z4 q0 q1 q2 q3 q4
  have z0 := (cell_of_row _ _ 0 _ _ _ hz3).trans rfl
  have z1 := (cell_of_row _ _ 1 _ _ _ hz3).trans rfl
  have z2 := (cell_of_row _ _ 2 _ _ _ hz3).trans rfl
  have z3 := (cell_of_row _ _ 3 _ _ _ hz3).trans rfl
  have z4 := (cell_of_row _ _ 4 _ _ _ hz3).trans rfl
  have q0 := frozen_of_row _ _ 0 _ _ hz3
  have q1 := frozen_of_row _ _ 1 _ _ hz3
  have q2 := frozen_of_row _ _ 2 _ _ hz3
  have q3 := frozen_of_row _ _ 3 _ _ hz3
  have q4 := frozen_of_row _ _ 4 _ _ hz3
  have HZ3 := Lib.hid hz3
  have HP3 := Lib.hid hp3
  have HF3 := Lib.hid ((Fr.trans HF1.out (Fr.of pb haq)).trans hf3)
  clear hz3 hp3 hf3 haq
  unfold zeroV
  go_wp2_with fail
  have hn : w.heap.size ≠ pb := fun e => hpn e.symm
  have R5 := set5_row HZ3.out (.int .i64 0) (.int .i64 0) (.string ⟨#[]⟩) (.slice none 0 0) (.slice none 0 0)
  have P5 := set5_prs HP3.out hn (.int .i64 0) (.int .i64 0) (.string ⟨#[]⟩) (.slice none 0 0) (.slice none 0 0)
  have F5 := set5_fr HF3.out (Nat.le_refl _) (.int .i64 0) (.int .i64 0) (.string ⟨#[]⟩) (.slice none 0 0) (.slice none 0 0)
  rw [HTK.out] at P5
  refine bodyPost_ret (results5 rfl rfl R5) rfl ⟨F5, _, _, _, _, _, _, _, _, _, rfl, _, _, P5⟩

set_option maxRecDepth 100000 in
set_option maxHeartbeats 4000000 in
theorem value_f1 (pb : Nat) (vL : Value) (ts : List Tok) (E : Int) (d i p : Nat) (w : World) (hp : Prs w pb vL E i p 0 0) (hr : RdT w pb vL ts) (_hi : i ≤ 4611686018427387904) (_hpp : p ≤ 8192)
    (hk : (tk ts E i).1 = 1 ∧ (tk ts E i).2.2.1 ≠ [91] ∧ (tk ts E i).2.2.1 ≠ [123]) :
    Calls Tryd.prog 13 #[.pointer (some ⟨pb, 0, none⟩), .int .i64 d] w (GivesV pb vL E (.bad (tk ts E i).2.2.2 50) w) := by
  have hpb := hp.cells.1
  obtain ⟨wa, hwa⟩ : ∃ wa, wa = w.alloc (.cells #[.int .i64 0, .int .i64 0, .string ⟨#[]⟩, .slice none 0 0, .slice none 0 0] 25) := ⟨_, rfl⟩
  have hba : Below w.heap.size w wa := by rw [hwa]; exact (Below.refl _ _).alloc (Nat.le_refl _) _
  have hsa : wa.heap.size = w.heap.size + 1 := by rw [hwa, szAlloc']
  have hza : wa.heap[w.heap.size]? = some (.cells #[.int .i64 0, .int .i64 0, .string ⟨#[]⟩, .slice none 0 0, .slice none 0 0] 25 (0, 0)) := by rw [hwa]; exact heap_alloc_new w _
  have hpa := hp.below hba
  have hra := RdT_fr hr (Nat.le_of_lt hpb) (Fr.of pb hba)
  have ht := token_any pb vL ts E i p 0 0 wa hpa (hra.more (by omega))
  rcases htk : tk ts E i with ⟨x1, x2, x3, x4⟩
  rw [htk] at ht hk
  have HTK := Lib.hid htk
  simp only at hk
  unfold tokV at ht
  simp only at ht ⊢
  obtain ⟨X, hX⟩ : ∃ X, X = strOf x3 := ⟨_, rfl⟩
  have hXl : X.toList = x3 := by rw [hX, strOf_list]
  rw [← hX] at ht
  obtain ⟨rfl, n1, n2⟩ := hk
  rw [← hXl] at n1 n2
  have b1 : (X.toList != [91]) = true := by rw [bne_iff_ne]; exact n1
  have b2 : (X.toList != [123]) = true := by rw [bne_iff_ne]; exact n2
  have b3 : (X.toList == [91]) = false := by rw [beq_eq_false_iff_ne]; exact n1
  have b4 : (X.toList == [123]) = false := by rw [beq_eq_false_iff_ne]; exact n2
  clear n1 n2 hXl
  rw [hwa] at ht
  have HT := Lib.hid ht
  have HWA := Lib.hid hwa
  have HXX := Lib.hid hX
  have HRA := Lib.hid hra
  have HFA := Lib.hid (Fr.of pb hba)
  clear ht hwa hX hp hra htk hr hba
  go_enter Tryd.func13, Tryd.ntmps13
  go_wp2_with fail
  refine HT.out.mono ?_
  rw [← HWA.out]
  rintro e w1 ⟨rfl, hb1⟩
  have hp1 := hpa.below hb1
  have hrr := RdT_fr HRA.out (by omega) (Fr.of pb hb1)
  obtain ⟨hlt1, _, _, g2, g3, _, _, fz1⟩ := hp1.cells
  have f2 := fz1 2
  have f3 := fz1 3
  have hz1 : w1.heap[w.heap.size]? = _ := (hb1.block w.heap.size (by omega)).trans hza
  have z0 := (cell_of_row _ _ 0 _ _ _ hz1).trans rfl
  have z1 := (cell_of_row _ _ 1 _ _ _ hz1).trans rfl
  have z2 := (cell_of_row _ _ 2 _ _ _ hz1).trans rfl
  have z3 := (cell_of_row _ _ 3 _ _ _ hz1).trans rfl
  have z4 := (cell_of_row _ _ 4 _ _ _ hz1).trans rfl
  have q0 := frozen_of_row _ _ 0 _ _ hz1
  have q1 := frozen_of_row _ _ 1 _ _ hz1
  have q2 := frozen_of_row _ _ 2 _ _ hz1
  have q3 := frozen_of_row _ _ 3 _ _ hz1
  have q4 := frozen_of_row _ _ 4 _ _ hz1
  have hpn : pb ≠ w.heap.size := by omega
  have hlw : w.heap.size < w1.heap.size := by have := hb1.size; omega
  have hne1 : w.heap.size ≠ w1.heap.size := by omega
  have hne2 : pb ≠ w1.heap.size := by omega
  have HP1 := Lib.hid hp1; clear hp1
  have HZ1 := Lib.hid hz1
  have HRR := Lib.hid hrr; clear hrr
  have HF1 := Lib.hid (HFA.out.trans (Fr.of pb hb1))
  clear hz1 hza fz1 hpa
  go_wp2_with fail
  have hpq := HP1.out.alloc (.cells #[.int .i64 1, .int .i64 x2, .string X, .int .i64 x4] 44)
  have haq : Below w1.heap.size w1 (w1.alloc (.cells #[.int .i64 1, .int .i64 x2, .string X, .int .i64 x4] 44)) := (Below.refl _ _).alloc (Nat.le_refl _) _
  have hrq := RdT_fr HRR.out (by omega) (Fr.of pb haq)
  have HFL := Lib.hid (fail_any pb vL ts E i p 0 50 _ hpq hrq)
  have HZQ := Lib.hid ((heap_alloc_old w1 (.cells #[.int .i64 1, .int .i64 x2, .string X, .int .i64 x4] 44) hlw).trans HZ1.out)
  clear hpq hrq
  refine HFL.out.mono ?_
  rintro e w3 ⟨rfl, hf3, hp3⟩
  have hz3 : w3.heap[w.heap.size]? = _ := (hf3.block w.heap.size (by simp; omega) (fun e => hpn (Option.some.inj e).symm)).trans HZQ.out
  clear z0 z1 z2 z3 z4 q0 q1 q2 q3 q4
  have z0 := (cell_of_row _ _ 0 _ _ _ hz3).trans rfl
  have z1 := (cell_of_row _ _ 1 _ _ _ hz3).trans rfl
  have z2 := (cell_of_row _ _ 2 _ _ _ hz3).trans rfl
  have z3 := (cell_of_row _ _ 3 _ _ _ hz3).trans rfl
  have z4 := (cell_of_row _ _ 4 _ _ _ hz3).trans rfl
  have q0 := frozen_of_row _ _ 0 _ _ hz3
  have q1 := frozen_of_row _ _ 1 _ _ hz3
  have q2 := frozen_of_row _ _ 2 _ _ hz3
  have q3 := frozen_of_row _ _ 3 _ _ hz3
  have q4 := frozen_of_row _ _ 4 _ _ hz3
  have HZ3 := Lib.hid hz3
  have HP3 := Lib.hid hp3
  have HF3 := Lib.hid ((Fr.trans HF1.out (Fr.of pb haq)).trans hf3)
  clear hz3 hp3 hf3 haq
  unfold zeroV
  go_wp2_with fail
  have hn : w.heap.size ≠ pb := fun e => hpn e.symm
  have R5 := set5_row HZ3.out (.int .i64 0) (.int .i64 0) (.string ⟨#[]⟩) (.slice none 0 0) (.slice none 0 0)
  have P5 := set5_prs HP3.out hn (.int .i64 0) (.int .i64 0) (.string ⟨#[]⟩) (.slice none 0 0) (.slice none 0 0)
  have F5 := set5_fr HF3.out (Nat.le_refl _) (.int .i64 0) (.int .i64 0) (.string ⟨#[]⟩) (.slice none 0 0) (.slice none 0 0)
  rw [HTK.out] at P5
  refine bodyPost_ret (results5 rfl rfl R5) rfl ⟨F5, _, _, _, _, _, _, _, _, _, rfl, _, _, P5⟩

set_option maxRecDepth 100000 in
set_option maxHeartbeats 4000000 in
theorem value_d0 (pb : Nat) (vL : Value) (ts : List Tok) (E : Int) (d i p : Nat) (w : World) (hp : Prs w pb vL E i p 0 0) (hr : RdT w pb vL ts) (_hi : i ≤ 4611686018427387904) (_hpp : p ≤ 8192) (hd : 16 < d)
    (hk : (tk ts E i).1 ≠ 0 ∧ (tk ts E i).1 ≠ 1) :
    Calls Tryd.prog 13 #[.pointer (some ⟨pb, 0, none⟩), .int .i64 d] w (GivesV pb vL E (.bad (tk ts E i).2.2.2 51) w) := by
  have hpb := hp.cells.1
  obtain ⟨wa, hwa⟩ : ∃ wa, wa = w.alloc (.cells #[.int .i64 0, .int .i64 0, .string ⟨#[]⟩, .slice none 0 0, .slice none 0 0] 25) := ⟨_, rfl⟩
  have hba : Below w.heap.size w wa := by rw [hwa]; exact (Below.refl _ _).alloc (Nat.le_refl _) _
  have hsa : wa.heap.size = w.heap.size + 1 := by rw [hwa, szAlloc']
  have hza : wa.heap[w.heap.size]? = some (.cells #[.int .i64 0, .int .i64 0, .string ⟨#[]⟩, .slice none 0 0, .slice none 0 0] 25 (0, 0)) := by rw [hwa]; exact heap_alloc_new w _
  have hpa := hp.below hba
  have hra := RdT_fr hr (Nat.le_of_lt hpb) (Fr.of pb hba)
  have ht := token_any pb vL ts E i p 0 0 wa hpa (hra.more (by omega))
  rcases htk : tk ts E i with ⟨x1, x2, x3, x4⟩
  rw [htk] at ht hk
  have HTK := Lib.hid htk
  simp only at hk
  unfold tokV at ht
  simp only at ht ⊢
  obtain ⟨X, hX⟩ : ∃ X, X = strOf x3 := ⟨_, rfl⟩
  have hXl : X.toList = x3 := by rw [hX, strOf_list]
  rw [← hX] at ht
  have b1 : (x1 == 0) = false := by rw [beq_eq_false_iff_ne]; exact hk.1
  have b2 : (x1 == 1) = false := by rw [beq_eq_false_iff_ne]; exact hk.2
  clear hk hXl
  have d1 : decide ((16 : Int) < (d : Int)) = true := decide_eq_true (by omega)
  rw [hwa] at ht
  have HT := Lib.hid ht
  have HWA := Lib.hid hwa
  have HXX := Lib.hid hX
  have HRA := Lib.hid hra
  have HFA := Lib.hid (Fr.of pb hba)
  clear ht hwa hX hp hra htk hr hba
  go_enter Tryd.func13, Tryd.ntmps13
  go_wp2_with fail
  refine HT.out.mono ?_
  rw [← HWA.out]
  rintro e w1 ⟨rfl, hb1⟩
  have hp1 := hpa.below hb1
  have hrr := RdT_fr HRA.out (by omega) (Fr.of pb hb1)
  obtain ⟨hlt1, _, _, g2, g3, _, _, fz1⟩ := hp1.cells
  have f2 := fz1 2
  have f3 := fz1 3
  have hz1 : w1.heap[w.heap.size]? = _ := (hb1.block w.heap.size (by omega)).trans hza
  have z0 := (cell_of_row _ _ 0 _ _ _ hz1).trans rfl
  have z1 := (cell_of_row _ _ 1 _ _ _ hz1).trans rfl
  have z2 := (cell_of_row _ _ 2 _ _ _ hz1).trans rfl
  have z3 := (cell_of_row _ _ 3 _ _ _ hz1).trans rfl
  have z4 := (cell_of_row _ _ 4 _ _ _ hz1).trans rfl
  have q0 := frozen_of_row _ _ 0 _ _ hz1
  have q1 := frozen_of_row _ _ 1 _ _ hz1
  have q2 := frozen_of_row _ _ 2 _ _ hz1
  have q3 := frozen_of_row _ _ 3 _ _ hz1
  have q4 := frozen_of_row _ _ 4 _ _ hz1
  have hpn : pb ≠ w.heap.size := by omega
  have hlw : w.heap.size < w1.heap.size := by have := hb1.size; omega
  have hne1 : w.heap.size ≠ w1.heap.size := by omega
  have hne2 : pb ≠ w1.heap.size := by omega
  have HP1 := Lib.hid hp1; clear hp1
  have HZ1 := Lib.hid hz1
  have HRR := Lib.hid hrr; clear hrr
  have HF1 := Lib.hid (HFA.out.trans (Fr.of pb hb1))
  clear hz1 hza fz1 hpa
  go_wp2_with fail
  have hpq := HP1.out.alloc (.cells #[.int .i64 x1, .int .i64 x2, .string X, .int .i64 x4] 44)
  have haq : Below w1.heap.size w1 (w1.alloc (.cells #[.int .i64 x1, .int .i64 x2, .string X, .int .i64 x4] 44)) := (Below.refl _ _).alloc (Nat.le_refl _) _
  have hrq := RdT_fr HRR.out (by omega) (Fr.of pb haq)
  have HFL := Lib.hid (fail_any pb vL ts E i p 0 51 _ hpq hrq)
  have HZQ := Lib.hid ((heap_alloc_old w1 (.cells #[.int .i64 x1, .int .i64 x2, .string X, .int .i64 x4] 44) hlw).trans HZ1.out)
  clear hpq hrq
  refine HFL.out.mono ?_
  rintro e w3 ⟨rfl, hf3, hp3⟩
  have hz3 : w3.heap[w.heap.size]? = _ := (hf3.block w.heap.size (by simp; omega) (fun e => hpn (Option.some.inj e).symm)).trans HZQ.out
  clear z0 z1 z2 z3 z4 q0 q1 q2 q3 q4
  have z0 := (cell_of_row _ _ 0 _ _ _ hz3).trans rfl
  have z1 := (cell_of_row _ _ 1 _ _ _ hz3).trans rfl
  have z2 := (cell_of_row _ _ 2 _ _ _ hz3).trans rfl
  have z3 := (cell_of_row _ _ 3 _ _ _ hz3).trans rfl
  have z4 := (cell_of_row _ _ 4 _ _ _ hz3).trans rfl
  have q0 := frozen_of_row _ _ 0 _ _ hz3
  have q1 := frozen_of_row _ _ 1 _ _ hz3
  have q2 := frozen_of_row _ _ 2 _ _ hz3
  have q3 := frozen_of_row _ _ 3 _ _ hz3
  have q4 := frozen_of_row _ _ 4 _ _ hz3
  have HZ3 := Lib.hid hz3
  have HP3 := Lib.hid hp3
  have HF3 := Lib.hid ((Fr.trans HF1.out (Fr.of pb haq)).trans hf3)
  clear hz3 hp3 hf3 haq
  unfold zeroV
  go_wp2_with fail
  have hn : w.heap.size ≠ pb := fun e => hpn e.symm
  have R5 := set5_row HZ3.out (.int .i64 0) (.int .i64 0) (.string ⟨#[]⟩) (.slice none 0 0) (.slice none 0 0)
  have P5 := set5_prs HP3.out hn (.int .i64 0) (.int .i64 0) (.string ⟨#[]⟩) (.slice none 0 0) (.slice none 0 0)
  have F5 := set5_fr HF3.out (Nat.le_refl _) (.int .i64 0) (.int .i64 0) (.string ⟨#[]⟩) (.slice none 0 0) (.slice none 0 0)
  rw [HTK.out] at P5
  refine bodyPost_ret (results5 rfl rfl R5) rfl ⟨F5, _, _, _, _, _, _, _, _, _, rfl, _, _, P5⟩

set_option maxRecDepth 100000 in
set_option maxHeartbeats 4000000 in
theorem value_d91 (pb : Nat) (vL : Value) (ts : List Tok) (E : Int) (d i p : Nat) (w : World) (hp : Prs w pb vL E i p 0 0) (hr : RdT w pb vL ts) (_hi : i ≤ 4611686018427387904) (_hpp : p ≤ 8192) (hd : 16 < d)
    (hk : (tk ts E i).1 = 1 ∧ (tk ts E i).2.2.1 = [91]) :
    Calls Tryd.prog 13 #[.pointer (some ⟨pb, 0, none⟩), .int .i64 d] w (GivesV pb vL E (.bad (tk ts E i).2.2.2 51) w) := by
  have hpb := hp.cells.1
  obtain ⟨wa, hwa⟩ : ∃ wa, wa = w.alloc (.cells #[.int .i64 0, .int .i64 0, .string ⟨#[]⟩, .slice none 0 0, .slice none 0 0] 25) := ⟨_, rfl⟩
  have hba : Below w.heap.size w wa := by rw [hwa]; exact (Below.refl _ _).alloc (Nat.le_refl _) _
  have hsa : wa.heap.size = w.heap.size + 1 := by rw [hwa, szAlloc']
  have hza : wa.heap[w.heap.size]? = some (.cells #[.int .i64 0, .int .i64 0, .string ⟨#[]⟩, .slice none 0 0, .slice none 0 0] 25 (0, 0)) := by rw [hwa]; exact heap_alloc_new w _
  have hpa := hp.below hba
  have hra := RdT_fr hr (Nat.le_of_lt hpb) (Fr.of pb hba)
  have ht := token_any pb vL ts E i p 0 0 wa hpa (hra.more (by omega))
  rcases htk : tk ts E i with ⟨x1, x2, x3, x4⟩
  rw [htk] at ht hk
  have HTK := Lib.hid htk
  simp only at hk
  unfold tokV at ht
  simp only at ht ⊢
  obtain ⟨X, hX⟩ : ∃ X, X = strOf x3 := ⟨_, rfl⟩
  have hXl : X.toList = x3 := by rw [hX, strOf_list]
  rw [← hX] at ht
  obtain ⟨rfl, rfl⟩ := hk
  have d1 : decide ((16 : Int) < (d : Int)) = true := decide_eq_true (by omega)
  rw [hwa] at ht
  have HT := Lib.hid ht
  have HWA := Lib.hid hwa
  have HXX := Lib.hid hX
  have HRA := Lib.hid hra
  have HFA := Lib.hid (Fr.of pb hba)
  clear ht hwa hX hp hra htk hr hba
  go_enter Tryd.func13, Tryd.ntmps13
  go_wp2_with fail
  refine HT.out.mono ?_
  rw [← HWA.out]
  rintro e w1 ⟨rfl, hb1⟩
  have hp1 := hpa.below hb1
  have hrr := RdT_fr HRA.out (by omega) (Fr.of pb hb1)
  obtain ⟨hlt1, _, _, g2, g3, _, _, fz1⟩ := hp1.cells
  have f2 := fz1 2
  have f3 := fz1 3
  have hz1 : w1.heap[w.heap.size]? = _ := (hb1.block w.heap.size (by omega)).trans hza
  have z0 := (cell_of_row _ _ 0 _ _ _ hz1).trans rfl
  have z1 := (cell_of_row _ _ 1 _ _ _ hz1).trans rfl
  have z2 := (cell_of_row _ _ 2 _ _ _ hz1).trans rfl
  have z3 := (cell_of_row _ _ 3 _ _ _ hz1).trans rfl
  have z4 := (cell_of_row _ _ 4 _ _ _ hz1).trans rfl
  have q0 := frozen_of_row _ _ 0 _ _ hz1
  have q1 := frozen_of_row _ _ 1 _ _ hz1
  have q2 := frozen_of_row _ _ 2 _ _ hz1
  have q3 := frozen_of_row _ _ 3 _ _ hz1
  have q4 := frozen_of_row _ _ 4 _ _ hz1
  have hpn : pb ≠ w.heap.size := by omega
  have hlw : w.heap.size < w1.heap.size := by have := hb1.size; omega
  have hne1 : w.heap.size ≠ w1.heap.size := by omega
  have hne2 : pb ≠ w1.heap.size := by omega
  have HP1 := Lib.hid hp1; clear hp1
  have HZ1 := Lib.hid hz1
  have HRR := Lib.hid hrr; clear hrr
  have HF1 := Lib.hid (HFA.out.trans (Fr.of pb hb1))
  clear hz1 hza fz1 hpa
  go_wp2_with fail
  have hpq := HP1.out.alloc (.cells #[.int .i64 1, .int .i64 x2, .string X, .int .i64 x4] 44)
  have haq : Below w1.heap.size w1 (w1.alloc (.cells #[.int .i64 1, .int .i64 x2, .string X, .int .i64 x4] 44)) := (Below.refl _ _).alloc (Nat.le_refl _) _
  have hrq := RdT_fr HRR.out (by omega) (Fr.of pb haq)
  have HFL := Lib.hid (fail_any pb vL ts E i p 0 51 _ hpq hrq)
  have HZQ := Lib.hid ((heap_alloc_old w1 (.cells #[.int .i64 1, .int .i64 x2, .string X, .int .i64 x4] 44) hlw).trans HZ1.out)
  clear hpq hrq
  refine HFL.out.mono ?_
  rintro e w3 ⟨rfl, hf3, hp3⟩
  have hz3 : w3.heap[w.heap.size]? = _ := (hf3.block w.heap.size (by simp; omega) (fun e => hpn (Option.some.inj e).symm)).trans HZQ.out
  clear z0 z1 z2 z3 z4 q0 q1 q2 q3 q4
  have z0 := (cell_of_row _ _ 0 _ _ _ hz3).trans rfl
  have z1 := (cell_of_row _ _ 1 _ _ _ hz3).trans rfl
  have z2 := (cell_of_row _ _ 2 _ _ _ hz3).trans rfl
  have z3 := (cell_of_row _ _ 3 _ _ _ hz3).trans rfl
  have z4 := (cell_of_row _ _ 4 _ _ _ hz3).trans rfl
  have q0 := frozen_of_row _ _ 0 _ _ hz3
  have q1 := frozen_of_row _ _ 1 _ _ hz3
  have q2 := frozen_of_row _ _ 2 _ _ hz3
  have q3 := frozen_of_row _ _ 3 _ _ hz3
  have q4 := frozen_of_row _ _ 4 _ _ hz3
  have HZ3 := Lib.hid hz3
  have HP3 := Lib.hid hp3
  have HF3 := Lib.hid ((Fr.trans HF1.out (Fr.of pb haq)).trans hf3)
  clear hz3 hp3 hf3 haq
  unfold zeroV
  go_wp2_with fail
  have hn : w.heap.size ≠ pb := fun e => hpn e.symm
  have R5 := set5_row HZ3.out (.int .i64 0) (.int .i64 0) (.string ⟨#[]⟩) (.slice none 0 0) (.slice none 0 0)
  have P5 := set5_prs HP3.out hn (.int .i64 0) (.int .i64 0) (.string ⟨#[]⟩) (.slice none 0 0) (.slice none 0 0)
  have F5 := set5_fr HF3.out (Nat.le_refl _) (.int .i64 0) (.int .i64 0) (.string ⟨#[]⟩) (.slice none 0 0) (.slice none 0 0)
  rw [HTK.out] at P5
  refine bodyPost_ret (results5 rfl rfl R5) rfl ⟨F5, _, _, _, _, _, _, _, _, _, rfl, _, _, P5⟩

set_option maxRecDepth 100000 in
set_option maxHeartbeats 4000000 in
theorem value_d123 (pb : Nat) (vL : Value) (ts : List Tok) (E : Int) (d i p : Nat) (w : World) (hp : Prs w pb vL E i p 0 0) (hr : RdT w pb vL ts) (_hi : i ≤ 4611686018427387904) (_hpp : p ≤ 8192) (hd : 16 < d)
    (hk : (tk ts E i).1 = 1 ∧ (tk ts E i).2.2.1 = [123]) :
    Calls Tryd.prog 13 #[.pointer (some ⟨pb, 0, none⟩), .int .i64 d] w (GivesV pb vL E (.bad (tk ts E i).2.2.2 51) w) := by
  have hpb := hp.cells.1
  obtain ⟨wa, hwa⟩ : ∃ wa, wa = w.alloc (.cells #[.int .i64 0, .int .i64 0, .string ⟨#[]⟩, .slice none 0 0, .slice none 0 0] 25) := ⟨_, rfl⟩
  have hba : Below w.heap.size w wa := by rw [hwa]; exact (Below.refl _ _).alloc (Nat.le_refl _) _
  have hsa : wa.heap.size = w.heap.size + 1 := by rw [hwa, szAlloc']
  have hza : wa.heap[w.heap.size]? = some (.cells #[.int .i64 0, .int .i64 0, .string ⟨#[]⟩, .slice none 0 0, .slice none 0 0] 25 (0, 0)) := by rw [hwa]; exact heap_alloc_new w _
  have hpa := hp.below hba
  have hra := RdT_fr hr (Nat.le_of_lt hpb) (Fr.of pb hba)
  have ht := token_any pb vL ts E i p 0 0 wa hpa (hra.more (by omega))
  rcases htk : tk ts E i with ⟨x1, x2, x3, x4⟩
  rw [htk] at ht hk
  have HTK := Lib.hid htk
  simp only at hk
  unfold tokV at ht
  simp only at ht ⊢
  obtain ⟨X, hX⟩ : ∃ X, X = strOf x3 := ⟨_, rfl⟩
  have hXl : X.toList = x3 := by rw [hX, strOf_list]
  rw [← hX] at ht
  obtain ⟨rfl, rfl⟩ := hk
  have d1 : decide ((16 : Int) < (d : Int)) = true := decide_eq_true (by omega)
  rw [hwa] at ht
  have HT := Lib.hid ht
  have HWA := Lib.hid hwa
  have HXX := Lib.hid hX
  have HRA := Lib.hid hra
  have HFA := Lib.hid (Fr.of pb hba)
  clear ht hwa hX hp hra htk hr hba
  go_enter Tryd.func13, Tryd.ntmps13
  go_wp2_with fail
  refine HT.out.mono ?_
  rw [← HWA.out]
  rintro e w1 ⟨rfl, hb1⟩
  have hp1 := hpa.below hb1
  have hrr := RdT_fr HRA.out (by omega) (Fr.of pb hb1)
  obtain ⟨hlt1, _, _, g2, g3, _, _, fz1⟩ := hp1.cells
  have f2 := fz1 2
  have f3 := fz1 3
  have hz1 : w1.heap[w.heap.size]? = _ := (hb1.block w.heap.size (by omega)).trans hza
  have z0 := (cell_of_row _ _ 0 _ _ _ hz1).trans rfl
  have z1 := (cell_of_row _ _ 1 _ _ _ hz1).trans rfl
  have z2 := (cell_of_row _ _ 2 _ _ _ hz1).trans rfl
  have z3 := (cell_of_row _ _ 3 _ _ _ hz1).trans rfl
  have z4 := (cell_of_row _ _ 4 _ _ _ hz1).trans rfl
  have q0 := frozen_of_row _ _ 0 _ _ hz1
  have q1 := frozen_of_row _ _ 1 _ _ hz1
  have q2 := frozen_of_row _ _ 2 _ _ hz1
  have q3 := frozen_of_row _ _ 3 _ _ hz1
  have q4 := frozen_of_row _ _ 4 _ _ hz1
  have hpn : pb ≠ w.heap.size := by omega
  have hlw : w.heap.size < w1.heap.size := by have := hb1.size; omega
  have hne1 : w.heap.size ≠ w1.heap.size := by omega
  have hne2 : pb ≠ w1.heap.size := by omega
  have HP1 := Lib.hid hp1; clear hp1
  have HZ1 := Lib.hid hz1
  have HRR := Lib.hid hrr; clear hrr
  have HF1 := Lib.hid (HFA.out.trans (Fr.of pb hb1))
  clear hz1 hza fz1 hpa
  go_wp2_with fail
  have hpq := HP1.out.alloc (.cells #[.int .i64 1, .int .i64 x2, .string X, .int .i64 x4] 44)
  have haq : Below w1.heap.size w1 (w1.alloc (.cells #[.int .i64 1, .int .i64 x2, .string X, .int .i64 x4] 44)) := (Below.refl _ _).alloc (Nat.le_refl _) _
  have hrq := RdT_fr HRR.out (by omega) (Fr.of pb haq)
  have HFL := Lib.hid (fail_any pb vL ts E i p 0 51 _ hpq hrq)
  have HZQ := Lib.hid ((heap_alloc_old w1 (.cells #[.int .i64 1, .int .i64 x2, .string X, .int .i64 x4] 44) hlw).trans HZ1.out)
  clear hpq hrq
  refine HFL.out.mono ?_
  rintro e w3 ⟨rfl, hf3, hp3⟩
  have hz3 : w3.heap[w.heap.size]? = _ := (hf3.block w.heap.size (by simp; omega) (fun e => hpn (Option.some.inj e).symm)).trans HZQ.out
  clear z0 z1 z2 z3 z4 q0 q1 q2 q3 q4
  have z0 := (cell_of_row _ _ 0 _ _ _ hz3).trans rfl
  have z1 := (cell_of_row _ _ 1 _ _ _ hz3).trans rfl
  have z2 := (cell_of_row _ _ 2 _ _ _ hz3).trans rfl
  have z3 := (cell_of_row _ _ 3 _ _ _ hz3).trans rfl
  have z4 := (cell_of_row _ _ 4 _ _ _ hz3).trans rfl
  have q0 := frozen_of_row _ _ 0 _ _ hz3
  have q1 := frozen_of_row _ _ 1 _ _ hz3
  have q2 := frozen_of_row _ _ 2 _ _ hz3
  have q3 := frozen_of_row _ _ 3 _ _ hz3
  have q4 := frozen_of_row _ _ 4 _ _ hz3
  have HZ3 := Lib.hid hz3
  have HP3 := Lib.hid hp3
  have HF3 := Lib.hid ((Fr.trans HF1.out (Fr.of pb haq)).trans hf3)
  clear hz3 hp3 hf3 haq
  unfold zeroV
  go_wp2_with fail
  have hn : w.heap.size ≠ pb := fun e => hpn e.symm
  have R5 := set5_row HZ3.out (.int .i64 0) (.int .i64 0) (.string ⟨#[]⟩) (.slice none 0 0) (.slice none 0 0)
  have P5 := set5_prs HP3.out hn (.int .i64 0) (.int .i64 0) (.string ⟨#[]⟩) (.slice none 0 0) (.slice none 0 0)
  have F5 := set5_fr HF3.out (Nat.le_refl _) (.int .i64 0) (.int .i64 0) (.string ⟨#[]⟩) (.slice none 0 0) (.slice none 0 0)
  rw [HTK.out] at P5
  refine bodyPost_ret (results5 rfl rfl R5) rfl ⟨F5, _, _, _, _, _, _, _, _, _, rfl, _, _, P5⟩

set_option maxRecDepth 100000 in
set_option maxHeartbeats 4000000 in
theorem value_m0 (pb : Nat) (vL : Value) (ts : List Tok) (E : Int) (d i p : Nat) (w : World) (hp : Prs w pb vL E i p 0 0) (hr : RdT w pb vL ts) (_hi : i ≤ 4611686018427387904) (_hpp : p ≤ 8192) (hd : ¬ 16 < d) (h8 : p = 8192)
    (hk : (tk ts E i).1 ≠ 0 ∧ (tk ts E i).1 ≠ 1) :
    Calls Tryd.prog 13 #[.pointer (some ⟨pb, 0, none⟩), .int .i64 d] w (GivesV pb vL E (.bad (tk ts E i).2.2.2 53) w) := by
  have hpb := hp.cells.1
  obtain ⟨wa, hwa⟩ : ∃ wa, wa = w.alloc (.cells #[.int .i64 0, .int .i64 0, .string ⟨#[]⟩, .slice none 0 0, .slice none 0 0] 25) := ⟨_, rfl⟩
  have hba : Below w.heap.size w wa := by rw [hwa]; exact (Below.refl _ _).alloc (Nat.le_refl _) _
  have hsa : wa.heap.size = w.heap.size + 1 := by rw [hwa, szAlloc']
  have hza : wa.heap[w.heap.size]? = some (.cells #[.int .i64 0, .int .i64 0, .string ⟨#[]⟩, .slice none 0 0, .slice none 0 0] 25 (0, 0)) := by rw [hwa]; exact heap_alloc_new w _
  have hpa := hp.below hba
  have hra := RdT_fr hr (Nat.le_of_lt hpb) (Fr.of pb hba)
  have ht := token_any pb vL ts E i p 0 0 wa hpa (hra.more (by omega))
  rcases htk : tk ts E i with ⟨x1, x2, x3, x4⟩
  rw [htk] at ht hk
  have HTK := Lib.hid htk
  simp only at hk
  unfold tokV at ht
  simp only at ht ⊢
  obtain ⟨X, hX⟩ : ∃ X, X = strOf x3 := ⟨_, rfl⟩
  have hXl : X.toList = x3 := by rw [hX, strOf_list]
  rw [← hX] at ht
  have b1 : (x1 == 0) = false := by rw [beq_eq_false_iff_ne]; exact hk.1
  have b2 : (x1 == 1) = false := by rw [beq_eq_false_iff_ne]; exact hk.2
  clear hk hXl
  have d1 : decide ((16 : Int) < (d : Int)) = false := decide_eq_false (by omega)
  have d2 : ((p : Int) == 8192) = true := by rw [beq_iff_eq]; omega
  rw [hwa] at ht
  have HT := Lib.hid ht
  have HWA := Lib.hid hwa
  have HXX := Lib.hid hX
  have HRA := Lib.hid hra
  have HFA := Lib.hid (Fr.of pb hba)
  clear ht hwa hX hp hra htk hr hba
  go_enter Tryd.func13, Tryd.ntmps13
  go_wp2_with fail
  refine HT.out.mono ?_
  rw [← HWA.out]
  rintro e w1 ⟨rfl, hb1⟩
  have hp1 := hpa.below hb1
  have hrr := RdT_fr HRA.out (by omega) (Fr.of pb hb1)
  obtain ⟨hlt1, _, _, g2, g3, _, _, fz1⟩ := hp1.cells
  have f2 := fz1 2
  have f3 := fz1 3
  have hz1 : w1.heap[w.heap.size]? = _ := (hb1.block w.heap.size (by omega)).trans hza
  have z0 := (cell_of_row _ _ 0 _ _ _ hz1).trans rfl
  have z1 := (cell_of_row _ _ 1 _ _ _ hz1).trans rfl
  have z2 := (cell_of_row _ _ 2 _ _ _ hz1).trans rfl
  have z3 := (cell_of_row _ _ 3 _ _ _ hz1).trans rfl
  have z4 := (cell_of_row _ _ 4 _ _ _ hz1).trans rfl
  have q0 := frozen_of_row _ _ 0 _ _ hz1
  have q1 := frozen_of_row _ _ 1 _ _ hz1
  have q2 := frozen_of_row _ _ 2 _ _ hz1
  have q3 := frozen_of_row _ _ 3 _ _ hz1
  have q4 := frozen_of_row _ _ 4 _ _ hz1
  have hpn : pb ≠ w.heap.size := by omega
  have hlw : w.heap.size < w1.heap.size := by have := hb1.size; omega
  have hne1 : w.heap.size ≠ w1.heap.size := by omega
  have hne2 : pb ≠ w1.heap.size := by omega
  have HP1 := Lib.hid hp1; clear hp1
  have HZ1 := Lib.hid hz1
  have HRR := Lib.hid hrr; clear hrr
  have HF1 := Lib.hid (HFA.out.trans (Fr.of pb hb1))
  clear hz1 hza fz1 hpa
  go_wp2_with fail
  have hpq := HP1.out.alloc (.cells #[.int .i64 x1, .int .i64 x2, .string X, .int .i64 x4] 44)
  have haq : Below w1.heap.size w1 (w1.alloc (.cells #[.int .i64 x1, .int .i64 x2, .string X, .int .i64 x4] 44)) := (Below.refl _ _).alloc (Nat.le_refl _) _
  have hrq := RdT_fr HRR.out (by omega) (Fr.of pb haq)
  have HFL := Lib.hid (fail_any pb vL ts E i p 0 53 _ hpq hrq)
  have HZQ := Lib.hid ((heap_alloc_old w1 (.cells #[.int .i64 x1, .int .i64 x2, .string X, .int .i64 x4] 44) hlw).trans HZ1.out)
  clear hpq hrq
  refine HFL.out.mono ?_
  rintro e w3 ⟨rfl, hf3, hp3⟩
  have hz3 : w3.heap[w.heap.size]? = _ := (hf3.block w.heap.size (by simp; omega) (fun e => hpn (Option.some.inj e).symm)).trans HZQ.out
  clear z0 z1 z2 z3 z4 q0 q1 q2 q3 q4
  have z0 := (cell_of_row _ _ 0 _ _ _ hz3).trans rfl
  have z1 := (cell_of_row _ _ 1 _ _ _ hz3).trans rfl
  have z2 := (cell_of_row _ _ 2 _ _ _ hz3).trans rfl
  have z3 := (cell_of_row _ _ 3 _ _ _ hz3).trans rfl
  have z4 := (cell_of_row _ _ 4 _ _ _ hz3).trans rfl
  have q0 := frozen_of_row _ _ 0 _ _ hz3
  have q1 := frozen_of_row _ _ 1 _ _ hz3
  have q2 := frozen_of_row _ _ 2 _ _ hz3
  have q3 := frozen_of_row _ _ 3 _ _ hz3
  have q4 := frozen_of_row _ _ 4 _ _ hz3
  have HZ3 := Lib.hid hz3
  have HP3 := Lib.hid hp3
  have HF3 := Lib.hid ((Fr.trans HF1.out (Fr.of pb haq)).trans hf3)
  clear hz3 hp3 hf3 haq
  unfold zeroV
  go_wp2_with fail
  have hn : w.heap.size ≠ pb := fun e => hpn e.symm
  have R5 := set5_row HZ3.out (.int .i64 0) (.int .i64 0) (.string ⟨#[]⟩) (.slice none 0 0) (.slice none 0 0)
  have P5 := set5_prs HP3.out hn (.int .i64 0) (.int .i64 0) (.string ⟨#[]⟩) (.slice none 0 0) (.slice none 0 0)
  have F5 := set5_fr HF3.out (Nat.le_refl _) (.int .i64 0) (.int .i64 0) (.string ⟨#[]⟩) (.slice none 0 0) (.slice none 0 0)
  rw [HTK.out] at P5
  refine bodyPost_ret (results5 rfl rfl R5) rfl ⟨F5, _, _, _, _, _, _, _, _, _, rfl, _, _, P5⟩

set_option maxRecDepth 100000 in
set_option maxHeartbeats 4000000 in
theorem value_m91 (pb : Nat) (vL : Value) (ts : List Tok) (E : Int) (d i p : Nat) (w : World) (hp : Prs w pb vL E i p 0 0) (hr : RdT w pb vL ts) (_hi : i ≤ 4611686018427387904) (_hpp : p ≤ 8192) (hd : ¬ 16 < d) (h8 : p = 8192)
    (hk : (tk ts E i).1 = 1 ∧ (tk ts E i).2.2.1 = [91]) :
    Calls Tryd.prog 13 #[.pointer (some ⟨pb, 0, none⟩), .int .i64 d] w (GivesV pb vL E (.bad (tk ts E i).2.2.2 53) w) := by
  have hpb := hp.cells.1
  obtain ⟨wa, hwa⟩ : ∃ wa, wa = w.alloc (.cells #[.int .i64 0, .int .i64 0, .string ⟨#[]⟩, .slice none 0 0, .slice none 0 0] 25) := ⟨_, rfl⟩
  have hba : Below w.heap.size w wa := by rw [hwa]; exact (Below.refl _ _).alloc (Nat.le_refl _) _
  have hsa : wa.heap.size = w.heap.size + 1 := by rw [hwa, szAlloc']
  have hza : wa.heap[w.heap.size]? = some (.cells #[.int .i64 0, .int .i64 0, .string ⟨#[]⟩, .slice none 0 0, .slice none 0 0] 25 (0, 0)) := by rw [hwa]; exact heap_alloc_new w _
  have hpa := hp.below hba
  have hra := RdT_fr hr (Nat.le_of_lt hpb) (Fr.of pb hba)
  have ht := token_any pb vL ts E i p 0 0 wa hpa (hra.more (by omega))
  rcases htk : tk ts E i with ⟨x1, x2, x3, x4⟩
  rw [htk] at ht hk
  have HTK := Lib.hid htk
  simp only at hk
  unfold tokV at ht
  simp only at ht ⊢
  obtain ⟨X, hX⟩ : ∃ X, X = strOf x3 := ⟨_, rfl⟩
  have hXl : X.toList = x3 := by rw [hX, strOf_list]
  rw [← hX] at ht
  obtain ⟨rfl, rfl⟩ := hk
  have d1 : decide ((16 : Int) < (d : Int)) = false := decide_eq_false (by omega)
  have d2 : ((p : Int) == 8192) = true := by rw [beq_iff_eq]; omega
  rw [hwa] at ht
  have HT := Lib.hid ht
  have HWA := Lib.hid hwa
  have HXX := Lib.hid hX
  have HRA := Lib.hid hra
  have HFA := Lib.hid (Fr.of pb hba)
  clear ht hwa hX hp hra htk hr hba
  go_enter Tryd.func13, Tryd.ntmps13
  go_wp2_with fail
  refine HT.out.mono ?_
  rw [← HWA.out]
  rintro e w1 ⟨rfl, hb1⟩
  have hp1 := hpa.below hb1
  have hrr := RdT_fr HRA.out (by omega) (Fr.of pb hb1)
  obtain ⟨hlt1, _, _, g2, g3, _, _, fz1⟩ := hp1.cells
  have f2 := fz1 2
  have f3 := fz1 3
  have hz1 : w1.heap[w.heap.size]? = _ := (hb1.block w.heap.size (by omega)).trans hza
  have z0 := (cell_of_row _ _ 0 _ _ _ hz1).trans rfl
  have z1 := (cell_of_row _ _ 1 _ _ _ hz1).trans rfl
  have z2 := (cell_of_row _ _ 2 _ _ _ hz1).trans rfl
  have z3 := (cell_of_row _ _ 3 _ _ _ hz1).trans rfl
  have z4 := (cell_of_row _ _ 4 _ _ _ hz1).trans rfl
  have q0 := frozen_of_row _ _ 0 _ _ hz1
  have q1 := frozen_of_row _ _ 1 _ _ hz1
  have q2 := frozen_of_row _ _ 2 _ _ hz1
  have q3 := frozen_of_row _ _ 3 _ _ hz1
  have q4 := frozen_of_row _ _ 4 _ _ hz1
  have hpn : pb ≠ w.heap.size := by omega
  have hlw : w.heap.size < w1.heap.size := by have := hb1.size; omega
  have hne1 : w.heap.size ≠ w1.heap.size := by omega
  have hne2 : pb ≠ w1.heap.size := by omega
  have HP1 := Lib.hid hp1; clear hp1
  have HZ1 := Lib.hid hz1
  have HRR := Lib.hid hrr; clear hrr
  have HF1 := Lib.hid (HFA.out.trans (Fr.of pb hb1))
  clear hz1 hza fz1 hpa
  go_wp2_with fail
  have hpq := HP1.out.alloc (.cells #[.int .i64 1, .int .i64 x2, .string X, .int .i64 x4] 44)
  have haq : Below w1.heap.size w1 (w1.alloc (.cells #[.int .i64 1, .int .i64 x2, .string X, .int .i64 x4] 44)) := (Below.refl _ _).alloc (Nat.le_refl _) _
  have hrq := RdT_fr HRR.out (by omega) (Fr.of pb haq)
  have HFL := Lib.hid (fail_any pb vL ts E i p 0 53 _ hpq hrq)
  have HZQ := Lib.hid ((heap_alloc_old w1 (.cells #[.int .i64 1, .int .i64 x2, .string X, .int .i64 x4] 44) hlw).trans HZ1.out)
  clear hpq hrq
  refine HFL.out.mono ?_
  rintro e w3 ⟨rfl, hf3, hp3⟩
  have hz3 : w3.heap[w.heap.size]? = _ := (hf3.block w.heap.size (by simp; omega) (fun e => hpn (Option.some.inj e).symm)).trans HZQ.out
  clear z0 z1 z2 z3 z4 q0 q1 q2 q3 q4
  have z0 := (cell_of_row _ _ 0 _ _ _ hz3).trans rfl
  have z1 := (cell_of_row _ _ 1 _ _ _ hz3).trans rfl
  have z2 := (cell_of_row _ _ 2 _ _ _ hz3).trans rfl
  have z3 := (cell_of_row _ _ 3 _ _ _ hz3).trans rfl
  have z4 := (cell_of_row _ _ 4 _ _ _ hz3).trans rfl
  have q0 := frozen_of_row _ _ 0 _ _ hz3
  have q1 := frozen_of_row _ _ 1 _ _ hz3
  have q2 := frozen_of_row _ _ 2 _ _ hz3
  have q3 := frozen_of_row _ _ 3 _ _ hz3
  have q4 := frozen_of_row _ _ 4 _ _ hz3
  have HZ3 := Lib.hid hz3
  have HP3 := Lib.hid hp3
  have HF3 := Lib.hid ((Fr.trans HF1.out (Fr.of pb haq)).trans hf3)
  clear hz3 hp3 hf3 haq
  unfold zeroV
  go_wp2_with fail
  have hn : w.heap.size ≠ pb := fun e => hpn e.symm
  have R5 := set5_row HZ3.out (.int .i64 0) (.int .i64 0) (.string ⟨#[]⟩) (.slice none 0 0) (.slice none 0 0)
  have P5 := set5_prs HP3.out hn (.int .i64 0) (.int .i64 0) (.string ⟨#[]⟩) (.slice none 0 0) (.slice none 0 0)
  have F5 := set5_fr HF3.out (Nat.le_refl _) (.int .i64 0) (.int .i64 0) (.string ⟨#[]⟩) (.slice none 0 0) (.slice none 0 0)
  rw [HTK.out] at P5
  refine bodyPost_ret (results5 rfl rfl R5) rfl ⟨F5, _, _, _, _, _, _, _, _, _, rfl, _, _, P5⟩

set_option maxRecDepth 100000 in
set_option maxHeartbeats 4000000 in
theorem value_m123 (pb : Nat) (vL : Value) (ts : List Tok) (E : Int) (d i p : Nat) (w : World) (hp : Prs w pb vL E i p 0 0) (hr : RdT w pb vL ts) (_hi : i ≤ 4611686018427387904) (_hpp : p ≤ 8192) (hd : ¬ 16 < d) (h8 : p = 8192)
    (hk : (tk ts E i).1 = 1 ∧ (tk ts E i).2.2.1 = [123]) :
    Calls Tryd.prog 13 #[.pointer (some ⟨pb, 0, none⟩), .int .i64 d] w (GivesV pb vL E (.bad (tk ts E i).2.2.2 53) w) := by
  have hpb := hp.cells.1
  obtain ⟨wa, hwa⟩ : ∃ wa, wa = w.alloc (.cells #[.int .i64 0, .int .i64 0, .string ⟨#[]⟩, .slice none 0 0, .slice none 0 0] 25) := ⟨_, rfl⟩
  have hba : Below w.heap.size w wa := by rw [hwa]; exact (Below.refl _ _).alloc (Nat.le_refl _) _
  have hsa : wa.heap.size = w.heap.size + 1 := by rw [hwa, szAlloc']
  have hza : wa.heap[w.heap.size]? = some (.cells #[.int .i64 0, .int .i64 0, .string ⟨#[]⟩, .slice none 0 0, .slice none 0 0] 25 (0, 0)) := by rw [hwa]; exact heap_alloc_new w _
  have hpa := hp.below hba
  have hra := RdT_fr hr (Nat.le_of_lt hpb) (Fr.of pb hba)
  have ht := token_any pb vL ts E i p 0 0 wa hpa (hra.more (by omega))
  rcases htk : tk ts E i with ⟨x1, x2, x3, x4⟩
  rw [htk] at ht hk
  have HTK := Lib.hid htk
  simp only at hk
  unfold tokV at ht
  simp only at ht ⊢
  obtain ⟨X, hX⟩ : ∃ X, X = strOf x3 := ⟨_, rfl⟩
  have hXl : X.toList = x3 := by rw [hX, strOf_list]
  rw [← hX] at ht
  obtain ⟨rfl, rfl⟩ := hk
  have d1 : decide ((16 : Int) < (d : Int)) = false := decide_eq_false (by omega)
  have d2 : ((p : Int) == 8192) = true := by rw [beq_iff_eq]; omega
  rw [hwa] at ht
  have HT := Lib.hid ht
  have HWA := Lib.hid hwa
  have HXX := Lib.hid hX
  have HRA := Lib.hid hra
  have HFA := Lib.hid (Fr.of pb hba)
  clear ht hwa hX hp hra htk hr hba
  go_enter Tryd.func13, Tryd.ntmps13
  go_wp2_with fail
  refine HT.out.mono ?_
  rw [← HWA.out]
  rintro e w1 ⟨rfl, hb1⟩
  have hp1 := hpa.below hb1
  have hrr := RdT_fr HRA.out (by omega) (Fr.of pb hb1)
  obtain ⟨hlt1, _, _, g2, g3, _, _, fz1⟩ := hp1.cells
  have f2 := fz1 2
  have f3 := fz1 3
  have hz1 : w1.heap[w.heap.size]? = _ := (hb1.block w.heap.size (by omega)).trans hza
  have z0 := (cell_of_row _ _ 0 _ _ _ hz1).trans rfl
  have z1 := (cell_of_row _ _ 1 _ _ _ hz1).trans rfl
  have z2 := (cell_of_row _ _ 2 _ _ _ hz1).trans rfl
  have z3 := (cell_of_row _ _ 3 _ _ _ hz1).trans rfl
  have z4 := (cell_of_row _ _ 4 _ _ _ hz1).trans rfl
  have q0 := frozen_of_row _ _ 0 _ _ hz1
  have q1 := frozen_of_row _ _ 1 _ _ hz1
  have q2 := frozen_of_row _ _ 2 _ _ hz1
  have q3 := frozen_of_row _ _ 3 _ _ hz1
  have q4 := frozen_of_row _ _ 4 _ _ hz1
  have hpn : pb ≠ w.heap.size := by omega
  have hlw : w.heap.size < w1.heap.size := by have := hb1.size; omega
  have hne1 : w.heap.size ≠ w1.heap.size := by omega
  have hne2 : pb ≠ w1.heap.size := by omega
  have HP1 := Lib.hid hp1; clear hp1
  have HZ1 := Lib.hid hz1
  have HRR := Lib.hid hrr; clear hrr
  have HF1 := Lib.hid (HFA.out.trans (Fr.of pb hb1))
  clear hz1 hza fz1 hpa
  go_wp2_with fail
  have hpq := HP1.out.alloc (.cells #[.int .i64 1, .int .i64 x2, .string X, .int .i64 x4] 44)
  have haq : Below w1.heap.size w1 (w1.alloc (.cells #[.int .i64 1, .int .i64 x2, .string X, .int .i64 x4] 44)) := (Below.refl _ _).alloc (Nat.le_refl _) _
  have hrq := RdT_fr HRR.out (by omega) (Fr.of pb haq)
  have HFL := Lib.hid (fail_any pb vL ts E i p 0 53 _ hpq hrq)
  have HZQ := Lib.hid ((heap_alloc_old w1 (.cells #[.int .i64 1, .int .i64 x2, .string X, .int .i64 x4] 44) hlw).trans HZ1.out)
  clear hpq hrq
  refine HFL.out.mono ?_
  rintro e w3 ⟨rfl, hf3, hp3⟩
  have hz3 : w3.heap[w.heap.size]? = _ := (hf3.block w.heap.size (by simp; omega) (fun e => hpn (Option.some.inj e).symm)).trans HZQ.out
  clear z0 z1 z2 z3 z4 q0 q1 q2 q3 q4
  have z0 := (cell_of_row _ _ 0 _ _ _ hz3).trans rfl
  have z1 := (cell_of_row _ _ 1 _ _ _ hz3).trans rfl
  have z2 := (cell_of_row _ _ 2 _ _ _ hz3).trans rfl
  have z3 := (cell_of_row _ _ 3 _ _ _ hz3).trans rfl
  have z4 := (cell_of_row _ _ 4 _ _ _ hz3).trans rfl
  have q0 := frozen_of_row _ _ 0 _ _ hz3
  have q1 := frozen_of_row _ _ 1 _ _ hz3
  have q2 := frozen_of_row _ _ 2 _ _ hz3
  have q3 := frozen_of_row _ _ 3 _ _ hz3
  have q4 := frozen_of_row _ _ 4 _ _ hz3
  have HZ3 := Lib.hid hz3
  have HP3 := Lib.hid hp3
  have HF3 := Lib.hid ((Fr.trans HF1.out (Fr.of pb haq)).trans hf3)
  clear hz3 hp3 hf3 haq
  unfold zeroV
  go_wp2_with fail
  have hn : w.heap.size ≠ pb := fun e => hpn e.symm
  have R5 := set5_row HZ3.out (.int .i64 0) (.int .i64 0) (.string ⟨#[]⟩) (.slice none 0 0) (.slice none 0 0)
  have P5 := set5_prs HP3.out hn (.int .i64 0) (.int .i64 0) (.string ⟨#[]⟩) (.slice none 0 0) (.slice none 0 0)
  have F5 := set5_fr HF3.out (Nat.le_refl _) (.int .i64 0) (.int .i64 0) (.string ⟨#[]⟩) (.slice none 0 0) (.slice none 0 0)
  rw [HTK.out] at P5
  refine bodyPost_ret (results5 rfl rfl R5) rfl ⟨F5, _, _, _, _, _, _, _, _, _, rfl, _, _, P5⟩
end Go.Proofs.YtoflogckoepioaaDoor.Re
