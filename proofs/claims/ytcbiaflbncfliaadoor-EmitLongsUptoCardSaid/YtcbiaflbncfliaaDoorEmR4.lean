import Derived.Test.YtcbiaflbncfliaaDoorEmE
import Derived.Test.YtcbiaflbncfliaaDoorEmPl2
import Derived.Test.YtcbiaflbncfliaaDoorChR4
import Derived.Test.YtcbiaflbncfliaaDoorNuE
import Derived.Deep.AppendLies
/- Contracts of the document's answer: write. Written by tools/genEmR4.py. -/
namespace Go.Proofs.YtcbiaflbncfliaaDoor.Em
open Go.RowKit
open Go.Proofs.YtcbiaflbncfliaaDoor.Utf
open Go.Proofs.YtcbiaflbncfliaaDoor.Sc
open Go.Proofs.YtcbiaflbncfliaaDoor.Re
open Go.Proofs.YtcbiaflbncfliaaDoor.Ch (Tab)
open Go.Proofs.YtcbiaflbncfliaaDoor.Nu (putL)

/-- a text that is gone on with: in memory from B on, in no block of F -/
def Own (B : Nat) (F : Nat → Prop) (o : Value) (X : List UInt8) (w : World) : Prop :=
  w.ownsRow B 5 1 o X.length (Lib.byteCells X) ∧ (∀ g, o.ownBlock = some g → ¬ F g) ∧ ∀ k, F k → k < w.heap.size
theorem Own.keep {B : Nat} {F : Nat → Prop} {o : Value} {X : List UInt8} {w w' : World} (h : Own B F o X w) (hb : Below w.heap.size w w') : Own B F o X w' :=
  ⟨own_below h.1 hb, h.2.1, fun k hk => Nat.lt_of_lt_of_le (h.2.2 k hk) hb.size⟩
theorem Own.kp {B : Nat} {F : Nat → Prop} {o : Value} {X : List UInt8} {w w' : World} (h : Own B F o X w) (hb : Below w.heap.size w w') (hB : B ≤ w.heap.size) : Kp B F w w' :=
  ⟨hb.mono hB, fun k hk => hb.block k (h.2.2 k hk)⟩
theorem Own.more {B : Nat} {F : Nat → Prop} {o : Value} {X : List UInt8} {w : World} (h : Own B F o X w) (ob : Obj) : Own B (fun k => F k ∨ k = w.heap.size) o X (w.alloc ob) := by
  have hb : Below w.heap.size w (w.alloc ob) := (Below.refl _ _).alloc (Nat.le_refl _) _
  refine ⟨own_below h.1 hb, ?_, ?_⟩
  · rintro g hg (hf | hf)
    · exact h.2.1 g hg hf
    · have := (h.1.lt g hg).2; omega
  · rintro k (hk | hk)
    · have := h.2.2 k hk; rw [szAlloc']; omega
    · rw [szAlloc']; omega
theorem Own.less {B : Nat} {F G : Nat → Prop} {o : Value} {X : List UInt8} {w : World} (h : Own B F o X w) (hs : ∀ k, G k → F k) : Own B G o X w :=
  ⟨h.1, fun g hg hf => h.2.1 g hg (hs g hf), fun k hk => h.2.2 k (hs k hk)⟩
theorem Own.grown {B : Nat} {F : Nat → Prop} {o o' : Value} {X Y : List UInt8} {w w' : World} (h : Own B F o X w) (hg : w.grownBy w' o.ownBlock) (hat : o'.ownBlock = o.ownBlock ∨ o'.ownBlock = some w.heap.size) (hown : w'.ownsRow B 5 1 o' Y.length (Lib.byteCells Y)) (hB : B ≤ w.heap.size) :
    Own B F o' Y w' ∧ Kp B F w w' := by
  have hs := hg.size
  refine ⟨⟨hown, ?_, fun k hk => Nat.lt_of_lt_of_le (h.2.2 k hk) hs⟩, (Below.refl B w).grown hg hB (fun k hk => (h.1.lt k hk).1), fun k hk => hg.block k (h.2.2 k hk) (fun e => h.2.1 k e.symm hk)⟩
  intro g hgo hf
  rcases hat with e | e
  · rw [e] at hgo; exact h.2.1 g hgo hf
  · rw [e] at hgo
    have := Option.some.inj hgo
    have := h.2.2 g hf
    omega
/-- what write hands back -/
def GivesO (B : Nat) (F : Nat → Prop) (X : List UInt8) (w : World) (e : Ending) (w' : World) : Prop := ∃ o, e = .returned o ∧ Own B F o X w' ∧ Kp B F w w'
/-- what write does with a value, wherever it stands -/
def WO (lo hi B : Nat) (v : V) : Prop := ∀ (cs : List Value) (F : Nat → Prop) (o : Value) (X : List UInt8) (w : World), RdA w lo hi v cs → Own B F o X w → Tab w → B ≤ w.heap.size → X.length + (emV v).length ≤ 100000000000000 →
  Calls Tryd.prog 15 #[o, .agg cs.toArray] w (GivesO B F (X ++ emV v) w)
theorem strC (s : ByteArray) : Lib.strCells s = Lib.byteCells s.data.toList := rfl
theorem app_len (X : List UInt8) (s : ByteArray) : X.length + s.size = (X ++ s.data.toList).length := by rw [List.length_append]; rfl

set_option maxRecDepth 100000 in
set_option maxHeartbeats 8000000 in
theorem write_leaf (lo hi B : Nat) (v : V) (hk : v.k ≠ 5) (hk6 : v.k ≠ 6) (ha : own v.k v.n v.s v.l.length v.ns v.ms.length) (hm : v.s.length ≤ 1048576) : WO lo hi B v := by
  intro cs F o X w hR hO hT hB hr
  obtain ⟨i0, hi1, hz0, hz1, hz2⟩ := info_parts infoU8
  obtain ⟨A, c, A2, c2, rfl, hn, hL, hM⟩ := hR.cells
  obtain ⟨k, n, s, l, ns, ms⟩ := v
  simp only [V.k, V.n, V.s, V.l, V.ns, V.ms] at *
  have hE : emV (.mk k n s l ns ms) = if k = 1 then wNull else if k = 2 then (if n = 1 then wTrue else wFalse) else if k = 3 then putL n else if k = 4 then qt s else if k = 5 then 91 :: ((emT l).drop 1 ++ [93]) else 123 :: ((emM ns ms).drop 1 ++ [125]) := by rw [emV]
  have hinf := hi1
  clear hL hM hR hi1
  have hk1 := ha.1.1
  have hn3 := ha.2.2.1
  have hs4 := ha.2.2.2.1
  clear ha
  generalize emV (V.mk k n s l ns ms) = E at *
  have hb1 : Below w.heap.size w (w.alloc (.cells #[.int .i64 k, .int .i64 n, .string (strOf s), .slice A l.length c, .slice A2 ms.length c2] 25)) := (Below.refl _ _).alloc (Nat.le_refl _) _
  have hO1 := hO.keep hb1
  have hk1' := hO.kp hb1 hB
  have hT1 : Tab (w.alloc (.cells #[.int .i64 k, .int .i64 n, .string (strOf s), .slice A l.length c, .slice A2 ms.length c2] 25)) := hT.below hb1 hT.1 hb1.size
  have hsz1 : (w.alloc (.cells #[.int .i64 k, .int .i64 n, .string (strOf s), .slice A l.length c, .slice A2 ms.length c2] 25)).heap.size = w.heap.size + 1 := szAlloc' _ _
  have fin : ∀ (W2 W3 : World) (o' : Value) (st : ByteArray), Own B F o X W2 → Kp B F w W2 → B ≤ W2.heap.size → W3.ownsRow B 5 1 o' (X.length + st.size) (Lib.byteCells X ++ Lib.strCells st) → W2.grownBy W3 o.ownBlock → (o'.ownBlock = o.ownBlock ∨ o'.ownBlock = some W2.heap.size) → st.data.toList = E → GivesO B F (X ++ E) w (.returned o') W3 := fun W2 W3 o' st h1 h2 h3 h4 h5 h6 h7 => by
    rw [app_len, strC, ← Lib.byteCells_append, h7] at h4
    obtain ⟨q1, q2⟩ := h1.grown h5 h6 h4 h3
    exact ⟨_, rfl, q1, h2.trans q2⟩
  have FIN := Lib.hid fin; clear fin
  generalize hll : l.length = ll at *
  generalize hlm : ms.length = lm at *
  generalize hS : strOf s = S at *
  have hSd : S.data.toList = s := by rw [← hS]; rfl
  have hSs : S.size = s.length := by rw [← hS]; rfl
  clear hS hll hlm
  have HE := Lib.hid hE; clear hE
  by_cases c1 : k = 1
  · have hEe : E = wNull := by rw [HE.out, if_pos c1]
    subst c1 hEe
    have hr4 : X.length + 4 ≤ 100000000000000 := by rw [show (4 : Nat) = wNull.length from rfl]; exact hr
    go_enter Tryd.func15, Tryd.ntmps15
    go_wp2_with (at_builtin; refine wpList_append_str_at _ rfl _ _ 41 9 rfl B 5 i0 Tryd.underlying41 Tryd.underlying9 hinf hz0 hz1 hz2 _ _ _ rfl hO1.1 ⟨#[110, 117, 108, 108]⟩ rfl ?_ ?_ ?_ ?_; (unfold maxLen; show X.length + 4 ≤ _; omega); (show X.length + 4 ≤ _; omega); (rw [szAlloc']; omega); intro o2 w2 hown2 hg2 hat2)
    go_ret
    exact FIN.out _ _ _ _ hO1 hk1' (by omega) hown2 hg2 hat2 rfl
  by_cases c2' : k = 2
  · by_cases hn1 : n = 1
    · have hEe : E = wTrue := by rw [HE.out, if_neg c1, if_pos c2', if_pos hn1]
      subst c2' hn1 hEe
      have hr4 : X.length + 4 ≤ 100000000000000 := by rw [show (4 : Nat) = wTrue.length from rfl]; exact hr
      go_enter Tryd.func15, Tryd.ntmps15
      go_wp2_with (at_builtin; refine wpList_append_str_at _ rfl _ _ 41 9 rfl B 5 i0 Tryd.underlying41 Tryd.underlying9 hinf hz0 hz1 hz2 _ _ _ rfl hO1.1 ⟨#[116, 114, 117, 101]⟩ rfl ?_ ?_ ?_ ?_; (unfold maxLen; show X.length + 4 ≤ _; omega); (show X.length + 4 ≤ _; omega); (rw [szAlloc']; omega); intro o2 w2 hown2 hg2 hat2)
      go_ret
      exact FIN.out _ _ _ _ hO1 hk1' (by omega) hown2 hg2 hat2 rfl
    · have hEe : E = wFalse := by rw [HE.out, if_neg c1, if_pos c2', if_neg hn1]
      have u1 : (n == 1) = false := by rw [beq_eq_false_iff_ne]; exact hn1
      subst c2' hEe
      have hr4 : X.length + 5 ≤ 100000000000000 := by rw [show (5 : Nat) = wFalse.length from rfl]; exact hr
      go_enter Tryd.func15, Tryd.ntmps15
      go_wp2_with (at_builtin; refine wpList_append_str_at _ rfl _ _ 41 9 rfl B 5 i0 Tryd.underlying41 Tryd.underlying9 hinf hz0 hz1 hz2 _ _ _ rfl hO1.1 ⟨#[102, 97, 108, 115, 101]⟩ rfl ?_ ?_ ?_ ?_; (unfold maxLen; show X.length + 5 ≤ _; omega); (show X.length + 5 ≤ _; omega); (rw [szAlloc']; omega); intro o2 w2 hown2 hg2 hat2)
      go_ret
      exact FIN.out _ _ _ _ hO1 hk1' (by omega) hown2 hg2 hat2 rfl
  by_cases c3 : k = 3
  · have hEe : E = putL n := by rw [HE.out, if_neg c1, if_neg c2', if_pos c3]
    have hn4 := hn3 c3
    subst c3 hEe
    have hc := fun w => Nu.rPut_any 20 n w (by omega) (by omega) (by omega) (by omega) (by omega)
    have hpd : (strOf (putL n)).data.toList = putL n := rfl
    have hps : (strOf (putL n)).size = (putL n).length := rfl
    have hpl := (Nu.putL_len n).2
    generalize strOf (putL n) = Y at *
    have HC := Lib.hid hc; clear hc
    go_enter Tryd.func15, Tryd.ntmps15
    go_wp2_with fail
    refine (HC.out _).mono ?_
    rintro e w4 ⟨rfl, hb4⟩
    have hO4 := hO1.keep hb4
    have hk4 := hk1'.trans (hO1.kp hb4 (by omega))
    have hsz4 := hb4.size
    go_wp2_with (at_builtin; refine wpList_append_str_at _ rfl _ _ 41 9 rfl B 5 i0 Tryd.underlying41 Tryd.underlying9 hinf hz0 hz1 hz2 _ _ _ rfl hO4.1 Y rfl ?_ ?_ ?_ ?_; (unfold maxLen; omega); omega; omega; intro o2 w2 hown2 hg2 hat2)
    go_ret
    exact FIN.out _ _ _ _ hO4 hk4 (by omega) hown2 hg2 hat2 hpd
  · have c4 : k = 4 := by omega
    have hEe : E = qt s := by rw [HE.out, if_neg c1, if_neg c2', if_neg c3, if_pos c4]
    have hs5 := hs4 c4
    have hql := qt_len s
    have hq := fun w hT => Ch.rQuote_any S w (by omega) hT
    rw [hSd, Ch.quoteR_yes (l := s) (by unfold okS at hs5; omega)] at hq
    subst c4 hEe
    have hpd : (strOf (qt s)).data.toList = qt s := rfl
    have hps : (strOf (qt s)).size = (qt s).length := rfl
    have hqq : Ch.GivesQuote (34 :: (Ch.qbL s ++ [34]), true) = fun w e w' => e = .returned (.tuple #[.string (strOf (qt s)), .bool true]) ∧ Below w.heap.size w w' := rfl
    rw [hqq] at hq
    generalize strOf (qt s) = Y at *
    have HC := Lib.hid (hq _ hT1); clear hq hqq
    go_enter Tryd.func15, Tryd.ntmps15
    go_wp2_with fail
    refine HC.out.mono ?_
    rintro e w4 ⟨rfl, hb4⟩
    have hO4 := hO1.keep hb4
    have hk4 := hk1'.trans (hO1.kp hb4 (by omega))
    have hsz4 := hb4.size
    go_wp2_with (at_builtin; refine wpList_append_str_at _ rfl _ _ 41 9 rfl B 5 i0 Tryd.underlying41 Tryd.underlying9 hinf hz0 hz1 hz2 _ _ _ rfl hO4.1 Y rfl ?_ ?_ ?_ ?_; (unfold maxLen; omega); omega; omega; intro o2 w2 hown2 hg2 hat2)
    go_ret
    exact FIN.out _ _ _ _ hO4 hk4 (by omega) hown2 hg2 hat2 hpd

theorem okWL_mem {v : V} : ∀ {l : List V}, okWL l → v ∈ l → okW v := by
  intro l
  induction l with
  | nil => intro _ h; cases h
  | cons a r ih =>
    intro h hv
    rw [okWL] at h
    rcases List.mem_cons.1 hv with rfl | hv
    · exact h.1
    · exact ih h.2 hv
theorem Own.byte {B : Nat} {F : Nat → Prop} {o : Value} {X : List UInt8} {w w' : World} {c : UInt8} {z : Int} {g cap : Nat} (hc : Lib.byteCells [c] = [.int .u8 z]) (h : Own B F o X w)
    (hown : w'.ownsRow B 5 1 (.slice (some ⟨g, 0, none⟩) (X.length + 1) cap) (X.length + 1) (Lib.byteCells X ++ [.int .u8 z])) (hg : w.grownBy w' o.ownBlock) (hat : o.ownBlock = some g ∨ g = w.heap.size) (hB : B ≤ w.heap.size) :
    Own B F (.slice (some ⟨g, 0, none⟩) (X.length + 1) cap) (X ++ [c]) w' ∧ Kp B F w w' := by
  rw [← hc, ← Lib.byteCells_append] at hown
  refine h.grown hg ?_ (by rw [List.length_append]; exact hown) hB
  rcases hat with e | e
  · exact .inl e.symm
  · exact .inr (by rw [← e]; rfl)
theorem Own.str {B : Nat} {F : Nat → Prop} {o o' : Value} {X : List UInt8} {w w' : World} {st : ByteArray} (h : Own B F o X w)
    (hown : w'.ownsRow B 5 1 o' (X.length + st.size) (Lib.byteCells X ++ Lib.strCells st)) (hg : w.grownBy w' o.ownBlock) (hat : o'.ownBlock = o.ownBlock ∨ o'.ownBlock = some w.heap.size) (hB : B ≤ w.heap.size) :
    Own B F o' (X ++ st.data.toList) w' ∧ Kp B F w w' := by
  rw [app_len, strC, ← Lib.byteCells_append] at hown
  exact h.grown hg hat hown hB
theorem ownNum {B : Nat} {F : Nat → Prop} {o : Value} {X : List UInt8} {w : World} (h : Own B F o X w) : ∃ A c, o = .slice A X.length c := own_shape h.1

set_option maxRecDepth 100000 in
set_option maxHeartbeats 16000000 in
theorem write_list (lo hi B : Nat) (hB0 : 0 < B) (hhi : hi ≤ B) (v : V) (hk : v.k = 5) (hbnd : v.l.length ≤ 4611686018427387904) (IH : ∀ v' ∈ v.l, WO lo hi B v') : WO lo hi B v := by
  intro cs F o X w hR hO hT hB hr
  obtain ⟨i0, hi1, hz0, hz1, hz2⟩ := info_parts infoU8
  obtain ⟨A, c, A2, c2, rfl, hn, hL, _⟩ := hR.cells
  obtain ⟨k, n, s, l, ns, ms⟩ := v
  simp only [V.k, V.n, V.s, V.l, V.ns, V.ms] at *
  subst hk
  have hE : emV (.mk 5 n s l ns ms) = 91 :: ((emT l).drop 1 ++ [93]) := by rw [emV, if_neg (by decide), if_neg (by decide), if_neg (by decide), if_neg (by decide), if_pos rfl]
  rw [hE] at hr ⊢
  simp only [List.length_cons, List.length_append, List.length_nil] at hr
  have HR := Lib.hid hr
  have hrX : X.length + 1 ≤ 100000000000000 := by omega
  obtain ⟨nl, hnl⟩ : ∃ z, l.length = z := ⟨_, rfl⟩
  rw [hnl] at hbnd ⊢
  have HN := Lib.hid hnl
  have HL := Lib.hid (fun h => hL (by rw [hnl]; exact h))
  clear hL hnl hE hr hR hn
  generalize strOf s = S at *
  generalize ms.length = lm at *
  have HW := Lib.hid IH; clear IH
  have HT := Lib.hid hT; clear hT
  obtain ⟨W1, hW1⟩ : ∃ z, z = w.alloc (.cells #[.int .i64 5, .int .i64 n, .string S, .slice A nl c, .slice A2 lm c2] 25) := ⟨_, rfl⟩
  have hb1 : Below w.heap.size w W1 := by rw [hW1]; exact (Below.refl _ _).alloc (Nat.le_refl _) _
  have hs1 : W1.heap.size = w.heap.size + 1 := by rw [hW1, szAlloc']
  have hbx : W1.heap[w.heap.size]? = some (.cells #[.int .i64 5, .int .i64 n, .string S, .slice A nl c, .slice A2 lm c2] 25 (0, 0)) := by rw [hW1]; exact heap_alloc_new w _
  have hOm : Own B (fun q => F q ∨ q = w.heap.size) o X W1 := by rw [hW1]; exact hO.more _
  have hkW := hO.kp hb1 hB
  have hbA : Below W1.heap.size W1 (W1.alloc (.cells #[.int .u8 91] 5)) := (Below.refl _ _).alloc (Nat.le_refl _) _
  have hO9 := hOm.keep hbA
  have hkA := hOm.kp hbA (by omega)
  have hnews : ∀ j u, ([.int .u8 91] : List Value)[j]? = some u → (W1.alloc (.cells #[.int .u8 91] 5)).cell? ((⟨w.heap.size + 1, 0, none⟩ : Addr).add j) = some u := fun j u hu => by
    have := cells_new W1 5 #[.int .u8 91] j u (by simpa using hu)
    rwa [hs1] at this
  have hs2 : B ≤ (W1.alloc (.cells #[.int .u8 91] 5)).heap.size := by rw [szAlloc']; omega
  have HKW := Lib.hid hkW; clear hkW
  have HKA := Lib.hid hkA; clear hkA
  have HBX := Lib.hid hbx; clear hbx
  have HB1 := Lib.hid hb1; clear hb1
  have HO9 := Lib.hid hO9; clear hOm hbA
  rw [hW1] at hnews hs2 hO9
  have hinf := hi1; clear hi1
  go_enter Tryd.func15, Tryd.ntmps15
  go_wp2_with (at_builtin; refine wpList_append_lies _ rfl _ _ 41 rfl B 5 i0 (.int .u8 0) 1 1 Tryd.underlying41 hinf hz0 hz1 hz2 (by rfl) (by decide) _ _ _ rfl hO9.1 ⟨w.heap.size + 1, 0, none⟩ 1 1 [.int .u8 91] rfl rfl hnews ?_ ?_ ?_ ?_ ?_ _ rfl ?_; (intro u hu; simp at hu; subst hu; rfl); omega; (unfold maxLen; omega); omega; (first | omega | (rw [szAlloc']; omega)); intro g3 cap3 w3 hown3 hg3 hat3 hlt3)
  rw [← hW1] at hg3 hat3
  obtain ⟨hO3, hk3⟩ := Own.byte (c := 91) rfl HO9.out hown3 hg3 hat3 (by rw [szAlloc']; omega)
  have hk13 := HKA.out.trans hk3
  have HK13 := Lib.hid hk13
  have HO3 := Lib.hid hO3
  clear hown3 hg3 hat3 hlt3 hk13 hk3 hO3 hnews hs2 hO9 hW1
  go_loopw [0, 7] (fun o' i wr => ∃ kk : Nat, i = .int .i64 kk ∧ kk ≤ nl ∧ Own B (fun q => F q ∨ q = w.heap.size) o' (X ++ 91 :: (emT (l.take kk)).drop 1) wr ∧ Kp B (fun q => F q ∨ q = w.heap.size) W1 wr) (fun _ i _ => nl - (intOf i).toNat)
  case atStart => exact ⟨0, rfl, by omega, by simpa [emT] using HO3.out, HK13.out⟩
  case round =>
    obtain ⟨kk, rfl, hkk, hown, hkp⟩ := hrel
    have hbel : Below B w wr := (HB1.out.mono hB).trans hkp.1
    have hsz := hbel.size
    have hsz2 := hkp.1.size
    have hboxF : ∀ u, Kp B (fun q => F q ∨ q = w.heap.size) wr u → u.cell? ⟨w.heap.size, 3, none⟩ = some (.slice A nl c) := fun u hu => (cell_of_row _ _ 3 _ _ _ ((hu.2 _ (.inr rfl)).trans ((hkp.2 _ (.inr rfl)).trans HBX.out))).trans rfl
    have hT2 : ∀ u, Below B wr u → Tab u := fun u hu => HT.out.below (hbel.trans hu) hB0 (hbel.trans hu).size
    obtain ⟨X1, hX1⟩ : ∃ z, z = X ++ 91 :: (emT (l.take kk)).drop 1 := ⟨_, rfl⟩
    rw [← hX1] at hown
    obtain ⟨A9, c9, rfl⟩ := ownNum hown
    have f0 := hboxF wr (Kp.refl (by omega))
    by_cases hlt0 : kk < nl
    · have hlt : kk < l.length := by rw [HN.out]; exact hlt0
      have hlb : decide ((kk : Int) < (nl : Int)) = true := decide_eq_true (by omega)
      have hlb2 : decide (kk < nl) = true := decide_eq_true hlt0
      have k0 : (0 : Int) ≤ (kk : Int) := by omega
      have k1 : (kk : Int) < (nl : Int) := by omega
      obtain ⟨g, o1, e1, _, hg, hRR⟩ := HL.out (by omega)
      subst e1
      obtain ⟨xa, hxa, hva⟩ := RdAL.at_ _ o1 hRR kk hlt
      obtain ⟨p1, p2, p3, p4, ea, hj⟩ := hva.cells
      clear hj
      have hva2 : ∀ u, Below B w u → RdA u lo hi l[kk] xa := fun u hb => hva.below hb hhi (Nat.le_refl _)
      have hcell : ∀ u, Below B w u → ∀ j x, xa[j]? = some x → u.cell? ⟨g, o1 + kk * 5 + j, none⟩ = some x := fun u hb j x hx => (hb.cell (p := ⟨g, o1 + kk * 5 + j, none⟩) (by show g < B; omega)).trans (hxa j x hx)
      have hmem := List.getElem_mem hlt
      have hcall := HW.out _ hmem xa (fun q => F q ∨ q = w.heap.size)
      clear hmem
      obtain ⟨X2, hX2⟩ : ∃ z, z = X1 ++ (if 0 < kk then [44] else []) := ⟨_, rfl⟩
      have hst := emT_step l kk hlt
      have hpre := emT_pre l (kk + 1)
      have hX3 : X ++ 91 :: (emT (l.take (kk + 1))).drop 1 = X2 ++ emV l[kk] := by rw [hst, hX2, hX1]; simp
      have hlen : X2.length + (emV l[kk]).length ≤ 100000000000000 := by
        have := congrArg List.length hX3
        simp only [List.length_append, List.length_drop, List.length_cons] at this
        have := HR.out
        rw [List.length_drop] at this
        omega
      have hlen1 : X1.length + 1 ≤ 100000000000100 := by
        have := congrArg List.length hX2
        simp only [List.length_append] at this
        omega
      have HST := Lib.hid hX3; clear hX3 hst hX1
      rw [ea] at hcell hcall hva2
      generalize l[kk] = v' at *
      generalize v'.k = y1 at *
      generalize v'.n = y2 at *
      generalize strOf v'.s = y3 at *
      generalize v'.l.length = y4 at *
      generalize v'.ms.length = y5 at *
      have HVA := Lib.hid hva2; clear hva2
      have HCELL := Lib.hid hcell; clear hcell
      have HCALL := Lib.hid hcall; clear hcall
      have HBQ := Lib.hid hboxF; clear hboxF
      have HT2 := Lib.hid hT2; clear hT2
      clear hxa hva ea hRR
      by_cases hpos : 0 < kk
      · rw [if_pos hpos] at hX2
        have hpb : decide ((0 : Int) < (kk : Int)) = true := decide_eq_true (by omega)
        have hpb2 : decide (0 < kk) = true := decide_eq_true hpos
        have hbC : Below wr.heap.size wr (wr.alloc (.cells #[.int .u8 44] 5)) := (Below.refl _ _).alloc (Nat.le_refl _) _
        have hOC := hown.keep hbC
        have hkC := hown.kp hbC (by omega)
        go_wp2_with (at_builtin; refine wpList_append_lies _ rfl _ _ 41 rfl B 5 i0 (.int .u8 0) 1 1 Tryd.underlying41 hinf hz0 hz1 hz2 (by rfl) (by decide) _ _ _ rfl hOC.1 ⟨wr.heap.size, 0, none⟩ 1 1 [.int .u8 44] rfl rfl (cells_new _ _ _) ?_ ?_ ?_ ?_ ?_ _ rfl ?_; (intro u hu; simp at hu; subst hu; rfl); omega; (unfold maxLen; omega); omega; (first | omega | (rw [szAlloc']; omega)); intro g3 cap3 w3 hown3 hg3 hat3 hlt3; have hqq := Own.byte (c := 44) (z := 44) rfl hOC hown3 hg3 hat3 (by rw [szAlloc']; omega); have hku := hkC.trans hqq.2; have hou := hqq.1; have hbu := hbel.trans hku.1; have fb := HBQ.out w3 hku; have a0 : w3.cell? ⟨g, o1 + kk * 5, none⟩ = _ := HCELL.out w3 hbu 0 _ rfl; have a1 := HCELL.out w3 hbu 1 _ rfl; have a2 := HCELL.out w3 hbu 2 _ rfl; have a3 := HCELL.out w3 hbu 3 _ rfl; have a4 := HCELL.out w3 hbu 4 _ rfl)
        rw [← hX2] at hou
        have hcl := HCALL.out _ X2 w3 (HVA.out w3 hbu) hou (HT2.out w3 hku.1) (by have := hku.1.size; omega) hlen
        have HCL := Lib.hid hcl
        clear hcl
        refine HCL.out.mono ?_
        rintro e w5 ⟨o5, rfl, hO5, hk5⟩
        have HO5 := Lib.hid hO5
        have HK5 := Lib.hid (hkp.trans (hku.trans hk5))
        clear hO5 hk5
        go_wp2_with fail
        go_roundw
        case rel => exact ⟨kk + 1, by go_num, by omega, by rw [HST.out]; exact HO5.out, HK5.out⟩
        case measure => simp [intOf]; omega
      · rw [if_neg hpos, List.append_nil] at hX2
        have hpb : decide ((0 : Int) < (kk : Int)) = false := decide_eq_false (by omega)
        have hpb2 : decide (0 < kk) = false := decide_eq_false hpos
        subst hX2
        have hku : Kp B (fun q => F q ∨ q = w.heap.size) wr wr := Kp.refl (by omega)
        have au := HCELL.out wr hbel
        have a0 : wr.cell? ⟨g, o1 + kk * 5, none⟩ = _ := au 0 _ rfl
        have a1 := au 1 _ rfl
        have a2 := au 2 _ rfl
        have a3 := au 3 _ rfl
        have a4 := au 4 _ rfl
        have hcl := HCALL.out _ X2 wr (HVA.out wr hbel) hown (HT2.out wr hku.1) (by have := hku.1.size; omega) hlen
        have HCL := Lib.hid hcl
        clear au hcl
        go_wp2_with fail
        refine HCL.out.mono ?_
        rintro e w5 ⟨o5, rfl, hO5, hk5⟩
        have HO5 := Lib.hid hO5
        have HK5 := Lib.hid (hkp.trans (hku.trans hk5))
        clear hO5 hk5
        go_wp2_with fail
        go_roundw
        case rel => exact ⟨kk + 1, by go_num, by omega, by rw [HST.out]; exact HO5.out, HK5.out⟩
        case measure => simp [intOf]; omega
    · have hlb : decide ((kk : Int) < (nl : Int)) = false := decide_eq_false (by omega)
      have hlb2 : decide (kk < nl) = false := decide_eq_false hlt0
      obtain rfl : nl = kk := by omega
      have hft : l.take nl = l := List.take_of_length_le (by rw [HN.out]; exact Nat.le_refl _)
      have HX1 := Lib.hid hX1
      have hbE : Below wr.heap.size wr (wr.alloc (.cells #[.int .u8 93] 5)) := (Below.refl _ _).alloc (Nat.le_refl _) _
      have hOE := hown.keep hbE
      have hkE := hown.kp hbE (by omega)
      have hlenE : X1.length + 1 ≤ 100000000000000 := by
        have := HR.out
        rw [hX1, hft]
        simp only [List.length_append, List.length_cons]
        omega
      clear hX1
      go_wp2_with (at_builtin; refine wpList_append_lies _ rfl _ _ 41 rfl B 5 i0 (.int .u8 0) 1 1 Tryd.underlying41 hinf hz0 hz1 hz2 (by rfl) (by decide) _ _ _ rfl hOE.1 ⟨wr.heap.size, 0, none⟩ 1 1 [.int .u8 93] rfl rfl (cells_new _ _ _) ?_ ?_ ?_ ?_ ?_ _ rfl ?_; (intro u hu; simp at hu; subst hu; rfl); omega; (unfold maxLen; omega); omega; (first | omega | (rw [szAlloc']; omega)); intro g3 cap3 w3 hown3 hg3 hat3 hlt3)
      go_ret
      obtain ⟨hOF, hkF⟩ := Own.byte (c := 93) rfl hOE hown3 hg3 hat3 (by rw [szAlloc']; omega)
      have hfin : X ++ 91 :: ((emT l).drop 1 ++ [93]) = X1 ++ [93] := by rw [HX1.out, hft]; simp
      rw [hfin]
      exact ⟨_, rfl, hOF.less (fun _ h => .inl h), HKW.out.trans ((hkp.trans (hkE.trans hkF)).less (fun _ h => .inl h))⟩
end Go.Proofs.YtcbiaflbncfliaaDoor.Em
