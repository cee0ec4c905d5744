import Derived.Test.YtbepnjgbkfidiaaTtD
import Derived.Test.YtbepnjgbkfidiaaTtE
import Derived.Test.YtbepnjgbkfidiaaTtB
import Derived.Test.YtbepnjgbkfidiaaRaA
import Derived.BigQuiet
import Derived.Deep.RegionHeld3
import Derived.Test.YtbepnjgbkfidiaaEmC
import Derived.Test.YtbepnjgbkfidiaaEmPl2
/- Law 07: what the calls of awake answer. -/
namespace Go.Proofs.Ytbepnjgbkfidiaa.Tr
open Go.Proofs Go.RowKit Go.Lib
open Go.Proofs.Ytbepnjgbkfidiaa.Utf
open Go.Proofs.Ytbepnjgbkfidiaa.Sc
open Go.Proofs.Ytbepnjgbkfidiaa.Re
open Go.Proofs.Ytbepnjgbkfidiaa.Em (Tells)

def vBA : V := twoV [98] [97] 1 2
def vAB : V := twoV [97] [98] 2 1
theorem gives_tells {q : Prop} (h : q) {w : World} {e : Ending} {w' : World} (t : (∃ b, e = .returned (.bool b) ∧ (b = true ↔ q)) ∧ Below w.heap.size w w') : Gives (.bool true) w e w' := by
  obtain ⟨⟨b, rfl, hb⟩, hw⟩ := t
  exact ⟨by rw [hb.2 h], hw⟩
theorem sz_BA (B : Nat) (h : 192 ≤ B) : szA B vBA ∧ szA B vAB := by
  have w1 : (Lit.int .i64 1).wf = true := by decide
  have w2 : (Lit.int .i64 2).wf = true := by decide
  have w3 : (Lit.int .i64 3).wf = true := by decide
  have w6 : (Lit.int .i64 6).wf = true := by decide
  have w0 : (Lit.int .i64 0).wf = true := by decide
  simp [vBA, vAB, twoV, mpV, numV, szA, szAL, w1, w2, w3, w6, w0]
  omega
theorem o_BA : oV vBA := by simp [vBA, twoV, mpV, numV, oV, oL]
theorem cnt_BA : cnt vBA = 3 := by kernel_rfl
theorem same_num (n : Int) : same (numV n) (numV n) := by
  rw [same_eq]
  exact ⟨rfl, rfl, rfl, (sameL_iff _ _).2 ⟨rfl, fun i h => absurd (show i < 0 from h) (by omega)⟩, rfl, (sameM_iff _ _ _ _ rfl).2 fun i h => absurd (show i < 0 from h) (by omega)⟩
theorem same_BA : same vBA vAB := by
  rw [same_eq]
  refine ⟨rfl, rfl, rfl, (sameL_iff _ _).2 ⟨rfl, fun i h => absurd (show i < 0 from h) (by omega)⟩, rfl, (sameM_iff _ _ _ _ rfl).2 fun i h hn => ?_⟩
  match i, h with
  | 0, _ => exact ⟨(show ([98] : List UInt8) ∈ [[97], [98]] by decide), numV 1, by rfl, same_num 1⟩
  | 1, _ => exact ⟨(show ([97] : List UInt8) ∈ [[97], [98]] by decide), numV 2, by rfl, same_num 2⟩
  | n + 2, h => exact absurd (show n + 2 < 2 from h) (by omega)
theorem srt_num {x : V} {n : Int} (h : Srt x (numV n)) : x = numV n := by
  rw [Srt_eq] at h
  obtain ⟨h1, h2, h3, h4, h5, -, P, p1, p2, p3⟩ := h
  obtain ⟨k, m, s, l, ns, ms⟩ := x
  have hl : l = [] := by
    have := ((SrtL_iff _ _).1 h4).1
    exact List.eq_nil_of_length_eq_zero this
  have hP : P = [] := List.Perm.eq_nil p1
  subst hP
  have hns : ns = [] := p2.symm
  have hms : ms = [] := by
    have := ((SrtL_iff _ _).1 p3).1
    exact List.eq_nil_of_length_eq_zero this
  subst hl hns hms
  have e1 : k = 3 := h1
  have e2 : m = n := h2
  have e3 : s = [] := h3
  subst e1 e2 e3
  rfl
theorem srt_BA {x : V} (h : Srt x vBA) : x = vAB := by
  rw [Srt_eq] at h
  obtain ⟨h1, h2, h3, h4, h5, hp, P, p1, p2, p3⟩ := h
  obtain ⟨k, m, s, l, ns, ms⟩ := x
  have hl : l = [] := by
    have := ((SrtL_iff _ _).1 h4).1
    exact List.eq_nil_of_length_eq_zero this
  have e1 : k = 6 := h1
  have e2 : m = 0 := h2
  have e3 : s = [] := h3
  subst e1 e2 e3 hl
  have hz : vBA.ns.zip vBA.ms = [([98], numV 1), ([97], numV 2)] := rfl
  rw [hz] at p1
  have hlen := p1.length_eq
  match P, hlen with
  | [a, b], _ =>
    have ha : a = ([98], numV 1) ∨ a = ([97], numV 2) := by simpa using p1.subset (show a ∈ [a, b] by simp)
    have hb : b = ([98], numV 1) ∨ b = ([97], numV 2) := by simpa using p1.subset (show b ∈ [a, b] by simp)
    have hnd : ([a, b] : List _).map Prod.fst |>.Nodup := (p1.map Prod.fst).nodup_iff.2 (by decide)
    simp only [List.map_cons, List.map_nil] at p2 p3 hnd
    obtain ⟨q1, q2⟩ := (SrtL_iff _ _).1 p3
    match ms, q1 with
    | [c, d], _ =>
      have hc := q2 0 (show 0 < 2 by omega) (show 0 < 2 by omega)
      have hd := q2 1 (show 1 < 2 by omega) (show 1 < 2 by omega)
      simp only [List.getElem_cons_zero, List.getElem_cons_succ] at hc hd
      have hns : ns = [a.1, b.1] := p2.symm
      subst hns
      rcases ha with rfl | rfl <;> rcases hb with rfl | rfl
      · exact absurd hnd (by decide)
      · have := (List.pairwise_cons.1 hp).1 [97] (by simp)
        exact absurd this (by decide)
      · obtain rfl : c = numV 2 := srt_num hc
        obtain rfl : d = numV 1 := srt_num hd
        rfl
      · exact absurd hnd (by decide)
theorem c_same (ca cb : List Value) (w : World) (ha : RdA w 0 w.heap.size vBA ca) (hb : RdA w 0 w.heap.size vAB cb) : Calls Try.prog 20 #[.agg ca.toArray, .agg cb.toArray] w (Gives (.bool true) w) :=
  (Same_any (ht vBA) vBA (Nat.le_refl _) (sz_BA _ (by omega)).1 (by show 0 < _; omega) (by show 2 < _; omega) vAB ca cb w (sz_BA _ (by omega)).2 ha hb).mono fun _ _ t => gives_tells same_BA t
theorem c_ref (a : V) (h : Srt a vBA) (ca cb : List Value) (w : World) (ha : RdA w 0 w.heap.size a ca) (hb : RdA w 0 w.heap.size vAB cb) : Calls Try.prog 12 #[.agg ca.toArray, .agg cb.toArray] w (Gives (.bool true) w) := by
  obtain rfl := srt_BA h
  exact (SameA_any (ht vAB) vAB vAB ca cb w (Nat.le_refl _) (sz_BA _ (by omega)).2 ha hb).mono fun _ _ t => gives_tells rfl t
theorem c_count (ca : List Value) (w : World) (ha : RdA w 0 w.heap.size vBA ca) : Calls Try.prog 21 #[.agg ca.toArray] w (Gives (.int .i64 3) w) := by
  have := Count_any (ht vBA) vBA (Nat.le_refl _) o_BA (by rw [cnt_BA]; omega) ca w ha
  rw [cnt_BA] at this
  exact this
def GivesWM (n : Nat) (w : World) (e : Ending) (w' : World) : Prop := (∃ A c, e = .returned (.agg #[.int .i64 6, .int .i64 0, .string ⟨#[]⟩, .slice none 0 0, .slice A n c])) ∧ Below w.heap.size w w'
theorem gives_wm {ns : List (List UInt8)} {ms : List V} {n : Nat} (hn : ms.length = n) {w : World} {e : Ending} {w' : World} (h : GivesM ns ms w e w') : GivesWM n w e w' := by
  obtain ⟨⟨A, c, e, _⟩, hb⟩ := h
  rw [hn] at e
  exact ⟨⟨A, c, e⟩, hb⟩
theorem c_with (ca cx : List Value) (w : World) (ha : RdA w 0 w.heap.size vBA ca) (hx : RdA w 0 w.heap.size (numV 2) cx) : Calls Try.prog 13 #[.agg ca.toArray, .string ⟨#[99]⟩, .agg cx.toArray] w (GivesWM 3 w) :=
  (With_any vBA (numV 2) ca cx [99] w ha hx (by show 2 < _; omega)).mono fun _ _ t => gives_wm (by rfl) t
theorem c_without (ca : List Value) (w : World) (ha : RdA w 0 w.heap.size vBA ca) : Calls Try.prog 15 #[.agg ca.toArray, .string ⟨#[97]⟩] w (GivesWM 1 w) :=
  (Without_any vBA ca [97] w ha (by show 2 < _; omega)).mono fun _ _ t => gives_wm (by rfl) t
theorem c_geta (ca : List Value) (w : World) (ha : RdA w 0 w.heap.size vBA ca) : Calls Try.prog 10 #[.agg ca.toArray, .string ⟨#[97]⟩] w fun e w' => (∃ A c A2 c2, e = .returned (.tuple #[.agg #[.int .i64 3, .int .i64 2, .string ⟨#[]⟩, .slice A 0 c, .slice A2 0 c2], .bool true])) ∧ Below w.heap.size w w' :=
  (Get_any vBA ca [97] w ha (sz_BA _ (by omega)).1).mono fun e w' t => by
    obtain ⟨⟨cs, rfl, hr⟩, hb⟩ := t
    obtain ⟨A, c, A2, c2, e, -⟩ := RdA.cells (v := numV 2) hr
    subst e
    exact ⟨⟨A, c, A2, c2, by rfl⟩, hb⟩
theorem c_getc (ca : List Value) (w : World) (ha : RdA w 0 w.heap.size vBA ca) : Calls Try.prog 10 #[.agg ca.toArray, .string ⟨#[99]⟩] w fun e w' => (∃ A c A2 c2, e = .returned (.tuple #[.agg #[.int .i64 0, .int .i64 0, .string ⟨#[]⟩, .slice A 0 c, .slice A2 0 c2], .bool false])) ∧ Below w.heap.size w w' :=
  (Get_any vBA ca [99] w ha (sz_BA _ (by omega)).1).mono fun e w' t => by
    obtain ⟨⟨cs, rfl, hr⟩, hb⟩ := t
    obtain ⟨A, c, A2, c2, e, -⟩ := RdA.cells (v := V0) hr
    subst e
    exact ⟨⟨A, c, A2, c2, by rfl⟩, hb⟩
theorem c_two1 (w : World) : Calls Try.prog 24 #[.string ⟨#[98]⟩, .string ⟨#[97]⟩] w (GivesTwo [98] [97] 1 2 w) := two_any [98] [97] 1 2 (.inr ⟨rfl, rfl⟩) (.inl ⟨rfl, rfl⟩) w
theorem c_two2 (w : World) : Calls Try.prog 24 #[.string ⟨#[97]⟩, .string ⟨#[98]⟩] w (GivesTwo [97] [98] 2 1 w) := two_any [97] [98] 2 1 (.inl ⟨rfl, rfl⟩) (.inr ⟨rfl, rfl⟩) w
end Go.Proofs.Ytbepnjgbkfidiaa.Tr
/- Law 07: awake. Written by tools/genTrZ.py. -/
namespace Go.Proofs.Ytbepnjgbkfidiaa.Tr
open Go.Proofs Go.RowKit Go.Lib
open Go.Proofs.Ytbepnjgbkfidiaa.Utf
open Go.Proofs.Ytbepnjgbkfidiaa.Sc
open Go.Proofs.Ytbepnjgbkfidiaa.Re

theorem rd_two (w : World) (lo hi : Nat) (A B : Option Addr) (c d : Nat) : RdA w lo hi (numV 2) [.int .i64 3, .int .i64 2, .string ⟨#[]⟩, .slice A 0 c, .slice B 0 d] := by
  rw [numV, RdA]
  exact ⟨A, c, B, d, rfl, rfl, fun h => by simp at h, fun h => by simp at h⟩

set_option maxRecDepth 100000 in
set_option maxHeartbeats 1000000 in
theorem awake_any7 (w : World) : Calls Try.prog 8 #[] w (Gives (.bool true) w) := by
  have hfld : ∀ (A : Option Addr) (n c : Nat) (w : World), (Instr.field 25 (.agg #[.int .i64 6, .int .i64 0, .string ⟨#[]⟩, .slice none 0 0, .slice A n c]) 4).run Try.prog w = .ok (.slice A n c) w := fun _ _ _ _ => by kernel_rfl
  go_enter Try.func8, Try.ntmps8
  go_wp2_with fail
  refine (c_two1 _).mono ?_
  rintro e w1 ⟨⟨A1, c1, rfl, hv1⟩, hb1⟩
  have HV1 := Lib.hid hv1
  have HB1 := Lib.hid hb1
  clear hv1 hb1
  go_wp2_with fail
  obtain ⟨W1, hW1⟩ : ∃ W1, W1 = (w1.alloc (.cells #[.int .i64 6, .int .i64 0, .string ⟨#[]⟩, .slice none 0 0, .slice A1 2 c1] 25)) := ⟨_, rfl⟩
  rw [← hW1]
  refine (c_two2 _).mono ?_
  rintro e w2 ⟨⟨A2, c2, rfl, hv2⟩, hb2⟩
  have hs1 : W1.heap.size = w1.heap.size + 1 := by rw [hW1, szAl]
  have hbw1 : Below w1.heap.size w1 W1 := by rw [hW1]; exact (Below.refl _ _).alloc (Nat.le_refl _) _
  have hr1 : W1.heap[w1.heap.size]? = some (.cells #[.int .i64 6, .int .i64 0, .string ⟨#[]⟩, .slice none 0 0, .slice A1 2 c1] 25 (0, 0)) := by rw [hW1]; exact heapNew _ _
  obtain ⟨W2, hW2⟩ : ∃ W2, W2 = (w2.alloc (.cells #[.int .i64 6, .int .i64 0, .string ⟨#[]⟩, .slice none 0 0, .slice A2 2 c2] 25)) := ⟨_, rfl⟩
  have hs2 : W2.heap.size = w2.heap.size + 1 := by rw [hW2, szAl]
  have hbw2 : Below w2.heap.size w2 W2 := by rw [hW2]; exact (Below.refl _ _).alloc (Nat.le_refl _) _
  have hr2 : W2.heap[w2.heap.size]? = some (.cells #[.int .i64 6, .int .i64 0, .string ⟨#[]⟩, .slice none 0 0, .slice A2 2 c2] 25 (0, 0)) := by rw [hW2]; exact heapNew _ _
  have hl2 : W1.heap.size ≤ w2.heap.size := hb2.size
  have hr21 : W2.heap[w1.heap.size]? = some (.cells #[.int .i64 6, .int .i64 0, .string ⟨#[]⟩, .slice none 0 0, .slice A1 2 c1] 25 (0, 0)) := (hbw2.block _ (by omega)).trans ((hb2.block _ (by omega)).trans hr1)
  have hv1W2 : RdA W2 0 W2.heap.size vBA [.int .i64 6, .int .i64 0, .string ⟨#[]⟩, .slice none 0 0, .slice A1 2 c1] := HV1.out.below (hbw1.trans ((hb2.mono (by omega)).trans (hbw2.mono (by omega)))) (Nat.le_refl _) (by omega)
  have hv2W2 : RdA W2 0 W2.heap.size vAB [.int .i64 6, .int .i64 0, .string ⟨#[]⟩, .slice none 0 0, .slice A2 2 c2] := hv2.below hbw2 (Nat.le_refl _) (by omega)
  have hB2 : Below w.heap.size w W2 := HB1.out.trans ((hbw1.mono HB1.out.size).trans ((hb2.mono (by have := HB1.out.size; omega)).trans (hbw2.mono (by have := HB1.out.size; omega))))
  have hr21' := hr21
  rw [hW2] at hr21'
  obtain ⟨⟨p0, p1, p2, p3, p4⟩, -⟩ := row5 hr21'
  have HW2 := Lib.hid hW2
  have HS2 := Lib.hid (And.intro hs1 (And.intro hs2 hl2))
  have HV1W2 := Lib.hid hv1W2
  have HV2W2 := Lib.hid hv2W2
  have HB2 := Lib.hid hB2
  have HR21 := Lib.hid hr21
  have HR2 := Lib.hid hr2
  clear hr21' hW1 hW2 hs1 hs2 hbw1 hbw2 hr1 hr2 hl2 hr21 hv1W2 hv2W2 hB2 hv2 hb2
  go_wp2_with fail
  rw [← HW2.out]
  refine (c_geta [.int .i64 6, .int .i64 0, .string ⟨#[]⟩, .slice none 0 0, .slice A1 2 c1] _ HV1W2.out).mono ?_
  rintro e w3 ⟨⟨A3, c3, B3, d3, rfl⟩, hb3⟩
  obtain ⟨W3, hW3⟩ : ∃ W3, W3 = (w3.alloc (.cells #[.int .i64 3, .int .i64 2, .string ⟨#[]⟩, .slice A3 0 c3, .slice B3 0 d3] 25)) := ⟨_, rfl⟩
  have hs3 : W3.heap.size = w3.heap.size + 1 := by rw [hW3, szAl]
  have hbw3 : Below w3.heap.size w3 W3 := by rw [hW3]; exact (Below.refl _ _).alloc (Nat.le_refl _) _
  have hr3 : W3.heap[w3.heap.size]? = some (.cells #[.int .i64 3, .int .i64 2, .string ⟨#[]⟩, .slice A3 0 c3, .slice B3 0 d3] 25 (0, 0)) := by rw [hW3]; exact heapNew _ _
  have hl3 : W2.heap.size ≤ w3.heap.size := hb3.size
  have hB3 : Below W2.heap.size W2 W3 := hb3.trans (hbw3.mono hl3)
  have hr31 := (hB3.block w1.heap.size (by have := HS2.out; omega)).trans HR21.out
  have hr31' := hr31
  rw [hW3] at hr31'
  clear p0 p1 p2 p3 p4
  obtain ⟨⟨p0, p1, p2, p3, p4⟩, -⟩ := row5 hr31'
  have HW3 := Lib.hid hW3
  have HS3 := Lib.hid (And.intro hs3 hl3)
  have HB3 := Lib.hid hB3
  have HR31 := Lib.hid hr31
  have HR3 := Lib.hid hr3
  clear hW3 hs3 hbw3 hr3 hl3 hB3 hr31 hr31' hb3
  go_wp2_with fail
  rw [← HW3.out]
  refine (c_getc [.int .i64 6, .int .i64 0, .string ⟨#[]⟩, .slice none 0 0, .slice A1 2 c1] _ (HV1W2.out.below HB3.out (Nat.le_refl _) HB3.out.size)).mono ?_
  rintro e w4 ⟨⟨A4, c4, B4, d4, rfl⟩, hb4⟩
  obtain ⟨u0, hu0⟩ : ∃ u0, u0 = (w4.alloc (.cells #[.int .i64 0, .int .i64 0, .string ⟨#[]⟩, .slice A4 0 c4, .slice B4 0 d4] 25)) := ⟨_, rfl⟩
  have hbu : Below w4.heap.size w4 u0 := by rw [hu0]; exact (Below.refl _ _).alloc (Nat.le_refl _) _
  have hB4 : Below W3.heap.size W3 u0 := hb4.trans (hbu.mono hb4.size)
  have HR0' := Lib.hid (show u0.heap[w1.heap.size]? = some (.cells #[.int .i64 6, .int .i64 0, .string ⟨#[]⟩, .slice none 0 0, .slice A1 2 c1] 25 (0, 0)) ∧ u0.heap[w2.heap.size]? = some (.cells #[.int .i64 6, .int .i64 0, .string ⟨#[]⟩, .slice none 0 0, .slice A2 2 c2] 25 (0, 0)) ∧ u0.heap[w3.heap.size]? = some (.cells #[.int .i64 3, .int .i64 2, .string ⟨#[]⟩, .slice A3 0 c3, .slice B3 0 d3] 25 (0, 0)) from ⟨(hB4.block _ (by have := HS2.out; have := HS3.out; omega)).trans HR31.out, (hB4.block _ (by have := HS2.out; have := HS3.out; omega)).trans ((HB3.out.block _ (by have := HS2.out; omega)).trans HR2.out), (hB4.block _ (by have := HS3.out; omega)).trans HR3.out⟩)
  have HU0 := Lib.hid hu0
  have hb24 : Below W2.heap.size W2 u0 := HB3.out.trans (hB4.mono HB3.out.size)
  have HXV1 := Lib.hid (show RdA u0 0 u0.heap.size vBA [.int .i64 6, .int .i64 0, .string ⟨#[]⟩, .slice none 0 0, .slice A1 2 c1] from HV1W2.out.below hb24 (Nat.le_refl _) hb24.size)
  have HXV2 := Lib.hid (show RdA u0 0 u0.heap.size vAB [.int .i64 6, .int .i64 0, .string ⟨#[]⟩, .slice none 0 0, .slice A2 2 c2] from HV2W2.out.below hb24 (Nat.le_refl _) hb24.size)
  have HBW := Lib.hid (show Below w.heap.size w u0 from HB2.out.trans (hb24.mono HB2.out.size))
  have HL1 := Lib.hid (show w1.heap.size < u0.heap.size by have := HS2.out; have := HS3.out; have := hB4.size; omega)
  have HL2 := Lib.hid (show w2.heap.size < u0.heap.size by have := HS2.out; have := HS3.out; have := hB4.size; omega)
  have HL3 := Lib.hid (show w3.heap.size < u0.heap.size by have := HS3.out; have := hB4.size; omega)
  clear hu0 hbu hB4 hb4 hb24 p0 p1 p2 p3 p4 HR3 HR31 HB3 HS3 HW3 HR2 HR21 HB2 HV2W2 HV1W2 HS2 HW2 HB1
  generalize w1.heap.size = b1 at *
  generalize w2.heap.size = b2 at *
  generalize w3.heap.size = b3 at *
  go_wp2_with fail
  rw [← HU0.out]
  have HBu0 := Lib.hid (show Below u0.heap.size u0 u0.drew from (Below.refl u0.heap.size u0).drew)
  refine wp_region_held_drew (S := fun w' => w'.heap[b1]? = some (.cells #[.int .i64 6, .int .i64 0, .string ⟨#[]⟩, .slice none 0 0, .slice A1 2 c1] 25 (0, 0)) ∧ w'.heap[b2]? = some (.cells #[.int .i64 6, .int .i64 0, .string ⟨#[]⟩, .slice none 0 0, .slice A2 2 c2] 25 (0, 0)) ∧ w'.heap[b3]? = some (.cells #[.int .i64 3, .int .i64 2, .string ⟨#[]⟩, .slice A3 0 c3, .slice B3 0 d3] 25 (0, 0))) (by kernel_rfl) (HR0'.out) (fun hHeld => ?_)
  refine wpAnyH_take (i := 0) (oi := { dst := some 19, op := Op.load 25 (Operand.tmp 1), type := 25, pos := "law.go:24", after := #[], guard := none }) (v := ?_) rfl (by kernel_rfl) (by kernel_rfl) (by kernel_rfl) (fun _ _ _ h => h) (Or.inl ⟨by rfl, ?_⟩) hHeld ?_
  rotate_left
  · intro w hSw; (try dsimp only at hSw); have q1 := (row5 hSw.1).1; obtain ⟨q10, q11, q12, q13, q14⟩ := q1; have q2 := (row5 hSw.2.1).1; obtain ⟨q20, q21, q22, q23, q24⟩ := q2; have q3 := (row5 hSw.2.2).1; obtain ⟨q30, q31, q32, q33, q34⟩ := q3; clear hSw; go_simp; with_reducible rfl
  try simp only [Act.put, List.setIfInBounds_toArray, List.set_cons_zero, List.set_cons_succ]
  refine wpAnyH_take (i := 1) (oi := { dst := some 20, op := Op.load 25 (Operand.tmp 2), type := 25, pos := "law.go:24", after := #[], guard := none }) (v := ?_) rfl (by kernel_rfl) (by kernel_rfl) (by kernel_rfl) (fun _ _ _ h => h) (Or.inl ⟨by rfl, ?_⟩) hHeld ?_
  rotate_left
  · intro w hSw; (try dsimp only at hSw); have q1 := (row5 hSw.1).1; obtain ⟨q10, q11, q12, q13, q14⟩ := q1; have q2 := (row5 hSw.2.1).1; obtain ⟨q20, q21, q22, q23, q24⟩ := q2; have q3 := (row5 hSw.2.2).1; obtain ⟨q30, q31, q32, q33, q34⟩ := q3; clear hSw; go_simp; with_reducible rfl
  try simp only [Act.put, List.setIfInBounds_toArray, List.set_cons_zero, List.set_cons_succ]
  refine wpAnyH_ready (rs := [2]) (by kernel_rfl) (by simp) ?_
  refine AllReadyH.cons (o := { dst := some 21, op := Op.call { callee := Callee.value (Operand.func 20), args := #[Operand.tmp 19, Operand.tmp 20], argTypes := #[25, 25] }, type := 4, pos := "law.go:24", after := #[{ on := 0, ground := Ground.data }, { on := 1, ground := Ground.data }], guard := none }) rfl (fun K hK => ?_) AllReadyH.nil
  go_simp
  go_at_call 20
  refine (c_same [.int .i64 6, .int .i64 0, .string ⟨#[]⟩, .slice none 0 0, .slice A1 2 c1] [.int .i64 6, .int .i64 0, .string ⟨#[]⟩, .slice none 0 0, .slice A2 2 c2] _ (RdA.below HXV1.out HBu0.out (Nat.le_refl _) HBu0.out.size) (RdA.below HXV2.out HBu0.out (Nat.le_refl _) HBu0.out.size)).mono ?_
  rintro e u1 ⟨rfl, hb⟩
  have HBu1 := Lib.hid (HBu0.out.trans (hb.mono HBu0.out.size))
  have HRu1 := Lib.hid (show u1.heap[b1]? = some (.cells #[.int .i64 6, .int .i64 0, .string ⟨#[]⟩, .slice none 0 0, .slice A1 2 c1] 25 (0, 0)) ∧ u1.heap[b2]? = some (.cells #[.int .i64 6, .int .i64 0, .string ⟨#[]⟩, .slice none 0 0, .slice A2 2 c2] 25 (0, 0)) ∧ u1.heap[b3]? = some (.cells #[.int .i64 3, .int .i64 2, .string ⟨#[]⟩, .slice A3 0 c3, .slice B3 0 d3] 25 (0, 0)) from ⟨(hb.block b1 (Nat.lt_of_lt_of_le HL1.out HBu0.out.size)).trans hHeld.1, (hb.block b2 (Nat.lt_of_lt_of_le HL2.out HBu0.out.size)).trans hHeld.2.1, (hb.block b3 (Nat.lt_of_lt_of_le HL3.out HBu0.out.size)).trans hHeld.2.2⟩)
  clear hb
  refine hK.out _ _ (HRu1.out) (fun hHeld => ?_)
  clear hK K
  try simp only [Act.put, List.setIfInBounds_toArray, List.set_cons_zero, List.set_cons_succ]
  refine wpAnyH_take (i := 3) (oi := { dst := some 22, op := Op.move (Operand.tmp 21), type := 4, pos := "law.go:24", after := #[{ on := 2, ground := Ground.data }, { on := 2, ground := Ground.chain }], guard := none }) (v := ?_) rfl (by kernel_rfl) (by kernel_rfl) (by kernel_rfl) (fun _ _ _ h => h) (Or.inl ⟨by rfl, ?_⟩) hHeld ?_
  rotate_left
  · intro w hSw; (try dsimp only at hSw); go_simp; with_reducible rfl
  try simp only [Act.put, List.setIfInBounds_toArray, List.set_cons_zero, List.set_cons_succ]
  refine wpAnyH_take (i := 4) (oi := { dst := some 23, op := Op.load 25 (Operand.tmp 1), type := 25, pos := "law.go:24", after := #[{ on := 3, ground := Ground.guard }], guard := some (3, true) }) (v := ?_) rfl (by kernel_rfl) (by kernel_rfl) (by kernel_rfl) (fun _ _ _ h => h) (Or.inl ⟨by rfl, ?_⟩) hHeld ?_
  rotate_left
  · intro w hSw; (try dsimp only at hSw); have q1 := (row5 hSw.1).1; obtain ⟨q10, q11, q12, q13, q14⟩ := q1; have q2 := (row5 hSw.2.1).1; obtain ⟨q20, q21, q22, q23, q24⟩ := q2; have q3 := (row5 hSw.2.2).1; obtain ⟨q30, q31, q32, q33, q34⟩ := q3; clear hSw; go_simp; with_reducible rfl
  try simp only [Act.put, List.setIfInBounds_toArray, List.set_cons_zero, List.set_cons_succ]
  refine wpAnyH_take (i := 6) (oi := { dst := some 25, op := Op.load 25 (Operand.tmp 2), type := 25, pos := "law.go:24", after := #[{ on := 3, ground := Ground.guard }], guard := some (3, true) }) (v := ?_) rfl (by kernel_rfl) (by kernel_rfl) (by kernel_rfl) (fun _ _ _ h => h) (Or.inl ⟨by rfl, ?_⟩) hHeld ?_
  rotate_left
  · intro w hSw; (try dsimp only at hSw); have q1 := (row5 hSw.1).1; obtain ⟨q10, q11, q12, q13, q14⟩ := q1; have q2 := (row5 hSw.2.1).1; obtain ⟨q20, q21, q22, q23, q24⟩ := q2; have q3 := (row5 hSw.2.2).1; obtain ⟨q30, q31, q32, q33, q34⟩ := q3; clear hSw; go_simp; with_reducible rfl
  try simp only [Act.put, List.setIfInBounds_toArray, List.set_cons_zero, List.set_cons_succ]
  refine wpAnyH_ready (rs := [5]) (by kernel_rfl) (by simp) ?_
  refine AllReadyH.cons (o := { dst := some 24, op := Op.call { callee := Callee.value (Operand.func 18), args := #[Operand.tmp 23], argTypes := #[25] }, type := 25, pos := "law.go:24", after := #[{ on := 4, ground := Ground.data }, { on := 3, ground := Ground.chain }, { on := 3, ground := Ground.guard }], guard := some (3, true) }) rfl (fun K hK => ?_) AllReadyH.nil
  go_simp
  go_at_call 18
  refine (Sort_any vBA [.int .i64 6, .int .i64 0, .string ⟨#[]⟩, .slice none 0 0, .slice A1 2 c1] _ o_BA (sz_BA _ (by omega)).1 (RdA.below HXV1.out HBu1.out (Nat.le_refl _) HBu1.out.size)).mono ?_
  rintro e u2 ⟨⟨sv, scs, sF, rfl, hsv, hsr, -, hsf⟩, hb⟩
  have HBu2 := Lib.hid (HBu1.out.trans (hb.mono HBu1.out.size))
  have HRu2 := Lib.hid (show u2.heap[b1]? = some (.cells #[.int .i64 6, .int .i64 0, .string ⟨#[]⟩, .slice none 0 0, .slice A1 2 c1] 25 (0, 0)) ∧ u2.heap[b2]? = some (.cells #[.int .i64 6, .int .i64 0, .string ⟨#[]⟩, .slice none 0 0, .slice A2 2 c2] 25 (0, 0)) ∧ u2.heap[b3]? = some (.cells #[.int .i64 3, .int .i64 2, .string ⟨#[]⟩, .slice A3 0 c3, .slice B3 0 d3] 25 (0, 0)) from ⟨(hb.block b1 (Nat.lt_of_lt_of_le HL1.out HBu1.out.size)).trans hHeld.1, (hb.block b2 (Nat.lt_of_lt_of_le HL2.out HBu1.out.size)).trans hHeld.2.1, (hb.block b3 (Nat.lt_of_lt_of_le HL3.out HBu1.out.size)).trans hHeld.2.2⟩)
  have HSV := Lib.hid hsv
  have HSR := Lib.hid (RdF.toA sv scs sF (lo := 0) (hi := u2.heap.size) (fun k hk => ⟨Nat.zero_le _, (hsf k hk).2⟩) hsr)
  clear hb hsv hsr hsf
  refine hK.out _ _ (HRu2.out) (fun hHeld => ?_)
  clear hK K
  try simp only [Act.put, List.setIfInBounds_toArray, List.set_cons_zero, List.set_cons_succ]
  refine wpAnyH_ready (rs := [7]) (by kernel_rfl) (by simp) ?_
  refine AllReadyH.cons (o := { dst := some 26, op := Op.call { callee := Callee.value (Operand.func 12), args := #[Operand.tmp 24, Operand.tmp 25], argTypes := #[25, 25] }, type := 4, pos := "law.go:24", after := #[{ on := 5, ground := Ground.data }, { on := 6, ground := Ground.data }, { on := 5, ground := Ground.chain }, { on := 3, ground := Ground.guard }], guard := some (3, true) }) rfl (fun K hK => ?_) AllReadyH.nil
  go_simp
  go_at_call 12
  refine (c_ref sv HSV.out scs [.int .i64 6, .int .i64 0, .string ⟨#[]⟩, .slice none 0 0, .slice A2 2 c2] _ HSR.out (RdA.below HXV2.out HBu2.out (Nat.le_refl _) HBu2.out.size)).mono ?_
  rintro e u3 ⟨rfl, hb⟩
  have HBu3 := Lib.hid (HBu2.out.trans (hb.mono HBu2.out.size))
  have HRu3 := Lib.hid (show u3.heap[b1]? = some (.cells #[.int .i64 6, .int .i64 0, .string ⟨#[]⟩, .slice none 0 0, .slice A1 2 c1] 25 (0, 0)) ∧ u3.heap[b2]? = some (.cells #[.int .i64 6, .int .i64 0, .string ⟨#[]⟩, .slice none 0 0, .slice A2 2 c2] 25 (0, 0)) ∧ u3.heap[b3]? = some (.cells #[.int .i64 3, .int .i64 2, .string ⟨#[]⟩, .slice A3 0 c3, .slice B3 0 d3] 25 (0, 0)) from ⟨(hb.block b1 (Nat.lt_of_lt_of_le HL1.out HBu2.out.size)).trans hHeld.1, (hb.block b2 (Nat.lt_of_lt_of_le HL2.out HBu2.out.size)).trans hHeld.2.1, (hb.block b3 (Nat.lt_of_lt_of_le HL3.out HBu2.out.size)).trans hHeld.2.2⟩)
  clear hb
  refine hK.out _ _ (HRu3.out) (fun hHeld => ?_)
  clear hK K
  try simp only [Act.put, List.setIfInBounds_toArray, List.set_cons_zero, List.set_cons_succ]
  refine wpAnyH_take (i := 8) (oi := { dst := some 27, op := Op.pick (Operand.tmp 22) (Operand.tmp 26) (Operand.const (Value.bool false)), type := 4, pos := "law.go:24", after := #[{ on := 3, ground := Ground.data }, { on := 7, ground := Ground.data }], guard := none }) (v := ?_) rfl (by kernel_rfl) (by kernel_rfl) (by kernel_rfl) (fun _ _ _ h => h) (Or.inl ⟨by rfl, ?_⟩) hHeld ?_
  rotate_left
  · intro w hSw; (try dsimp only at hSw); go_simp; with_reducible rfl
  try simp only [Act.put, List.setIfInBounds_toArray, List.set_cons_zero, List.set_cons_succ]
  refine wpAnyH_take (i := 9) (oi := { dst := some 28, op := Op.move (Operand.tmp 27), type := 4, pos := "law.go:24", after := #[{ on := 8, ground := Ground.data }, { on := 7, ground := Ground.chain }], guard := none }) (v := ?_) rfl (by kernel_rfl) (by kernel_rfl) (by kernel_rfl) (fun _ _ _ h => h) (Or.inl ⟨by rfl, ?_⟩) hHeld ?_
  rotate_left
  · intro w hSw; (try dsimp only at hSw); go_simp; with_reducible rfl
  try simp only [Act.put, List.setIfInBounds_toArray, List.set_cons_zero, List.set_cons_succ]
  refine wpAnyH_take (i := 10) (oi := { dst := some 29, op := Op.load 25 (Operand.tmp 1), type := 25, pos := "law.go:24", after := #[{ on := 9, ground := Ground.guard }], guard := some (9, true) }) (v := ?_) rfl (by kernel_rfl) (by kernel_rfl) (by kernel_rfl) (fun _ _ _ h => h) (Or.inl ⟨by rfl, ?_⟩) hHeld ?_
  rotate_left
  · intro w hSw; (try dsimp only at hSw); have q1 := (row5 hSw.1).1; obtain ⟨q10, q11, q12, q13, q14⟩ := q1; have q2 := (row5 hSw.2.1).1; obtain ⟨q20, q21, q22, q23, q24⟩ := q2; have q3 := (row5 hSw.2.2).1; obtain ⟨q30, q31, q32, q33, q34⟩ := q3; clear hSw; go_simp; with_reducible rfl
  try simp only [Act.put, List.setIfInBounds_toArray, List.set_cons_zero, List.set_cons_succ]
  refine wpAnyH_ready (rs := [11]) (by kernel_rfl) (by simp) ?_
  refine AllReadyH.cons (o := { dst := some 30, op := Op.call { callee := Callee.value (Operand.func 21), args := #[Operand.tmp 29], argTypes := #[25] }, type := 3, pos := "law.go:24", after := #[{ on := 10, ground := Ground.data }, { on := 9, ground := Ground.chain }, { on := 9, ground := Ground.guard }], guard := some (9, true) }) rfl (fun K hK => ?_) AllReadyH.nil
  go_simp
  go_at_call 21
  refine (c_count [.int .i64 6, .int .i64 0, .string ⟨#[]⟩, .slice none 0 0, .slice A1 2 c1] _ (RdA.below HXV1.out HBu3.out (Nat.le_refl _) HBu3.out.size)).mono ?_
  rintro e u4 ⟨rfl, hb⟩
  have HBu4 := Lib.hid (HBu3.out.trans (hb.mono HBu3.out.size))
  have HRu4 := Lib.hid (show u4.heap[b1]? = some (.cells #[.int .i64 6, .int .i64 0, .string ⟨#[]⟩, .slice none 0 0, .slice A1 2 c1] 25 (0, 0)) ∧ u4.heap[b2]? = some (.cells #[.int .i64 6, .int .i64 0, .string ⟨#[]⟩, .slice none 0 0, .slice A2 2 c2] 25 (0, 0)) ∧ u4.heap[b3]? = some (.cells #[.int .i64 3, .int .i64 2, .string ⟨#[]⟩, .slice A3 0 c3, .slice B3 0 d3] 25 (0, 0)) from ⟨(hb.block b1 (Nat.lt_of_lt_of_le HL1.out HBu3.out.size)).trans hHeld.1, (hb.block b2 (Nat.lt_of_lt_of_le HL2.out HBu3.out.size)).trans hHeld.2.1, (hb.block b3 (Nat.lt_of_lt_of_le HL3.out HBu3.out.size)).trans hHeld.2.2⟩)
  clear hb
  refine hK.out _ _ (HRu4.out) (fun hHeld => ?_)
  clear hK K
  try simp only [Act.put, List.setIfInBounds_toArray, List.set_cons_zero, List.set_cons_succ]
  refine wpAnyH_take (i := 12) (oi := { dst := some 31, op := Op.binOp BinOp.eql 3 (Operand.tmp 30) (Operand.const (Value.int IntKind.i64 3)) 3, type := 4, pos := "law.go:24", after := #[{ on := 11, ground := Ground.data }, { on := 9, ground := Ground.guard }], guard := some (9, true) }) (v := ?_) rfl (by kernel_rfl) (by kernel_rfl) (by kernel_rfl) (fun _ _ _ h => h) (Or.inl ⟨by rfl, ?_⟩) hHeld ?_
  rotate_left
  · intro w hSw; (try dsimp only at hSw); go_simp; with_reducible rfl
  try simp only [Act.put, List.setIfInBounds_toArray, List.set_cons_zero, List.set_cons_succ]
  refine wpAnyH_take (i := 13) (oi := { dst := some 32, op := Op.pick (Operand.tmp 28) (Operand.tmp 31) (Operand.const (Value.bool false)), type := 4, pos := "law.go:24", after := #[{ on := 9, ground := Ground.data }, { on := 12, ground := Ground.data }], guard := none }) (v := ?_) rfl (by kernel_rfl) (by kernel_rfl) (by kernel_rfl) (fun _ _ _ h => h) (Or.inl ⟨by rfl, ?_⟩) hHeld ?_
  rotate_left
  · intro w hSw; (try dsimp only at hSw); go_simp; with_reducible rfl
  try simp only [Act.put, List.setIfInBounds_toArray, List.set_cons_zero, List.set_cons_succ]
  refine wpAnyH_take (i := 14) (oi := { dst := some 33, op := Op.move (Operand.tmp 32), type := 4, pos := "law.go:24", after := #[{ on := 13, ground := Ground.data }, { on := 11, ground := Ground.chain }], guard := none }) (v := ?_) rfl (by kernel_rfl) (by kernel_rfl) (by kernel_rfl) (fun _ _ _ h => h) (Or.inl ⟨by rfl, ?_⟩) hHeld ?_
  rotate_left
  · intro w hSw; (try dsimp only at hSw); go_simp; with_reducible rfl
  try simp only [Act.put, List.setIfInBounds_toArray, List.set_cons_zero, List.set_cons_succ]
  refine wpAnyH_take (i := 15) (oi := { dst := some 34, op := Op.move (Operand.tmp 4), type := 4, pos := "law.go:24", after := #[{ on := 14, ground := Ground.guard }], guard := some (14, true) }) (v := ?_) rfl (by kernel_rfl) (by kernel_rfl) (by kernel_rfl) (fun _ _ _ h => h) (Or.inl ⟨by rfl, ?_⟩) hHeld ?_
  rotate_left
  · intro w hSw; (try dsimp only at hSw); go_simp; with_reducible rfl
  try simp only [Act.put, List.setIfInBounds_toArray, List.set_cons_zero, List.set_cons_succ]
  refine wpAnyH_take (i := 16) (oi := { dst := some 35, op := Op.pick (Operand.tmp 33) (Operand.tmp 34) (Operand.const (Value.bool false)), type := 4, pos := "law.go:24", after := #[{ on := 14, ground := Ground.data }, { on := 15, ground := Ground.data }], guard := none }) (v := ?_) rfl (by kernel_rfl) (by kernel_rfl) (by kernel_rfl) (fun _ _ _ h => h) (Or.inl ⟨by rfl, ?_⟩) hHeld ?_
  rotate_left
  · intro w hSw; (try dsimp only at hSw); go_simp; with_reducible rfl
  try simp only [Act.put, List.setIfInBounds_toArray, List.set_cons_zero, List.set_cons_succ]
  refine wpAnyH_take (i := 17) (oi := { dst := some 36, op := Op.move (Operand.tmp 35), type := 4, pos := "law.go:24", after := #[{ on := 16, ground := Ground.data }, { on := 14, ground := Ground.chain }], guard := none }) (v := ?_) rfl (by kernel_rfl) (by kernel_rfl) (by kernel_rfl) (fun _ _ _ h => h) (Or.inl ⟨by rfl, ?_⟩) hHeld ?_
  rotate_left
  · intro w hSw; (try dsimp only at hSw); go_simp; with_reducible rfl
  try simp only [Act.put, List.setIfInBounds_toArray, List.set_cons_zero, List.set_cons_succ]
  refine wpAnyH_take (i := 18) (oi := { dst := some 37, op := Op.fieldAddr 25 (Operand.tmp 3) 1, type := 0, pos := "law.go:24", after := #[{ on := 17, ground := Ground.guard }], guard := some (17, true) }) (v := ?_) rfl (by kernel_rfl) (by kernel_rfl) (by kernel_rfl) (fun _ _ _ h => h) (Or.inl ⟨by rfl, ?_⟩) hHeld ?_
  rotate_left
  · intro w hSw; (try dsimp only at hSw); go_simp; with_reducible rfl
  try simp only [Act.put, List.setIfInBounds_toArray, List.set_cons_zero, List.set_cons_succ]
  refine wpAnyH_take (i := 19) (oi := { dst := some 38, op := Op.load 2 (Operand.tmp 37), type := 2, pos := "law.go:24", after := #[{ on := 18, ground := Ground.data }, { on := 17, ground := Ground.guard }], guard := some (17, true) }) (v := ?_) rfl (by kernel_rfl) (by kernel_rfl) (by kernel_rfl) (fun _ _ _ h => h) (Or.inl ⟨by rfl, ?_⟩) hHeld ?_
  rotate_left
  · intro w hSw; (try dsimp only at hSw); have q1 := (row5 hSw.1).1; obtain ⟨q10, q11, q12, q13, q14⟩ := q1; have q2 := (row5 hSw.2.1).1; obtain ⟨q20, q21, q22, q23, q24⟩ := q2; have q3 := (row5 hSw.2.2).1; obtain ⟨q30, q31, q32, q33, q34⟩ := q3; clear hSw; go_simp; with_reducible rfl
  try simp only [Act.put, List.setIfInBounds_toArray, List.set_cons_zero, List.set_cons_succ]
  refine wpAnyH_take (i := 20) (oi := { dst := some 39, op := Op.binOp BinOp.eql 2 (Operand.tmp 38) (Operand.const (Value.int IntKind.i64 2)) 2, type := 4, pos := "law.go:24", after := #[{ on := 19, ground := Ground.data }, { on := 17, ground := Ground.guard }], guard := some (17, true) }) (v := ?_) rfl (by kernel_rfl) (by kernel_rfl) (by kernel_rfl) (fun _ _ _ h => h) (Or.inl ⟨by rfl, ?_⟩) hHeld ?_
  rotate_left
  · intro w hSw; (try dsimp only at hSw); go_simp; with_reducible rfl
  try simp only [Act.put, List.setIfInBounds_toArray, List.set_cons_zero, List.set_cons_succ]
  refine wpAnyH_take (i := 21) (oi := { dst := some 40, op := Op.pick (Operand.tmp 36) (Operand.tmp 39) (Operand.const (Value.bool false)), type := 4, pos := "law.go:24", after := #[{ on := 17, ground := Ground.data }, { on := 20, ground := Ground.data }], guard := none }) (v := ?_) rfl (by kernel_rfl) (by kernel_rfl) (by kernel_rfl) (fun _ _ _ h => h) (Or.inl ⟨by rfl, ?_⟩) hHeld ?_
  rotate_left
  · intro w hSw; (try dsimp only at hSw); go_simp; with_reducible rfl
  try simp only [Act.put, List.setIfInBounds_toArray, List.set_cons_zero, List.set_cons_succ]
  refine wpAnyH_take (i := 22) (oi := { dst := some 41, op := Op.move (Operand.tmp 40), type := 4, pos := "law.go:24", after := #[{ on := 21, ground := Ground.data }, { on := 17, ground := Ground.chain }], guard := none }) (v := ?_) rfl (by kernel_rfl) (by kernel_rfl) (by kernel_rfl) (fun _ _ _ h => h) (Or.inl ⟨by rfl, ?_⟩) hHeld ?_
  rotate_left
  · intro w hSw; (try dsimp only at hSw); go_simp; with_reducible rfl
  try simp only [Act.put, List.setIfInBounds_toArray, List.set_cons_zero, List.set_cons_succ]
  refine wpAnyH_take (i := 23) (oi := { dst := some 42, op := Op.move (Operand.tmp 6), type := 4, pos := "law.go:24", after := #[{ on := 22, ground := Ground.guard }], guard := some (22, true) }) (v := ?_) rfl (by kernel_rfl) (by kernel_rfl) (by kernel_rfl) (fun _ _ _ h => h) (Or.inl ⟨by rfl, ?_⟩) hHeld ?_
  rotate_left
  · intro w hSw; (try dsimp only at hSw); go_simp; with_reducible rfl
  try simp only [Act.put, List.setIfInBounds_toArray, List.set_cons_zero, List.set_cons_succ]
  refine wpAnyH_take (i := 24) (oi := { dst := some 43, op := Op.unOp UnOp.not 4 (Operand.tmp 42), type := 4, pos := "law.go:24", after := #[{ on := 23, ground := Ground.data }, { on := 22, ground := Ground.guard }], guard := some (22, true) }) (v := ?_) rfl (by kernel_rfl) (by kernel_rfl) (by kernel_rfl) (fun _ _ _ h => h) (Or.inl ⟨by rfl, ?_⟩) hHeld ?_
  rotate_left
  · intro w hSw; (try dsimp only at hSw); go_simp; with_reducible rfl
  try simp only [Act.put, List.setIfInBounds_toArray, List.set_cons_zero, List.set_cons_succ]
  refine wpAnyH_take (i := 25) (oi := { dst := some 44, op := Op.pick (Operand.tmp 41) (Operand.tmp 43) (Operand.const (Value.bool false)), type := 4, pos := "law.go:24", after := #[{ on := 22, ground := Ground.data }, { on := 24, ground := Ground.data }], guard := none }) (v := ?_) rfl (by kernel_rfl) (by kernel_rfl) (by kernel_rfl) (fun _ _ _ h => h) (Or.inl ⟨by rfl, ?_⟩) hHeld ?_
  rotate_left
  · intro w hSw; (try dsimp only at hSw); go_simp; with_reducible rfl
  try simp only [Act.put, List.setIfInBounds_toArray, List.set_cons_zero, List.set_cons_succ]
  refine wpAnyH_take (i := 26) (oi := { dst := some 45, op := Op.move (Operand.tmp 44), type := 4, pos := "law.go:24", after := #[{ on := 25, ground := Ground.data }, { on := 22, ground := Ground.chain }], guard := none }) (v := ?_) rfl (by kernel_rfl) (by kernel_rfl) (by kernel_rfl) (fun _ _ _ h => h) (Or.inl ⟨by rfl, ?_⟩) hHeld ?_
  rotate_left
  · intro w hSw; (try dsimp only at hSw); go_simp; with_reducible rfl
  try simp only [Act.put, List.setIfInBounds_toArray, List.set_cons_zero, List.set_cons_succ]
  refine wpAnyH_take (i := 27) (oi := { dst := some 46, op := Op.load 25 (Operand.tmp 1), type := 25, pos := "law.go:24", after := #[{ on := 26, ground := Ground.guard }], guard := some (26, true) }) (v := ?_) rfl (by kernel_rfl) (by kernel_rfl) (by kernel_rfl) (fun _ _ _ h => h) (Or.inl ⟨by rfl, ?_⟩) hHeld ?_
  rotate_left
  · intro w hSw; (try dsimp only at hSw); have q1 := (row5 hSw.1).1; obtain ⟨q10, q11, q12, q13, q14⟩ := q1; have q2 := (row5 hSw.2.1).1; obtain ⟨q20, q21, q22, q23, q24⟩ := q2; have q3 := (row5 hSw.2.2).1; obtain ⟨q30, q31, q32, q33, q34⟩ := q3; clear hSw; go_simp; with_reducible rfl
  try simp only [Act.put, List.setIfInBounds_toArray, List.set_cons_zero, List.set_cons_succ]
  refine wpAnyH_take (i := 28) (oi := { dst := some 47, op := Op.load 25 (Operand.tmp 3), type := 25, pos := "law.go:24", after := #[{ on := 26, ground := Ground.guard }], guard := some (26, true) }) (v := ?_) rfl (by kernel_rfl) (by kernel_rfl) (by kernel_rfl) (fun _ _ _ h => h) (Or.inl ⟨by rfl, ?_⟩) hHeld ?_
  rotate_left
  · intro w hSw; (try dsimp only at hSw); have q1 := (row5 hSw.1).1; obtain ⟨q10, q11, q12, q13, q14⟩ := q1; have q2 := (row5 hSw.2.1).1; obtain ⟨q20, q21, q22, q23, q24⟩ := q2; have q3 := (row5 hSw.2.2).1; obtain ⟨q30, q31, q32, q33, q34⟩ := q3; clear hSw; go_simp; with_reducible rfl
  try simp only [Act.put, List.setIfInBounds_toArray, List.set_cons_zero, List.set_cons_succ]
  refine wpAnyH_ready (rs := [29]) (by kernel_rfl) (by simp) ?_
  refine AllReadyH.cons (o := { dst := some 48, op := Op.call { callee := Callee.value (Operand.func 13), args := #[Operand.tmp 46, Operand.const (Value.string { data := #[99] }), Operand.tmp 47], argTypes := #[25, 9, 25] }, type := 25, pos := "law.go:24", after := #[{ on := 27, ground := Ground.data }, { on := 28, ground := Ground.data }, { on := 26, ground := Ground.chain }, { on := 26, ground := Ground.guard }], guard := some (26, true) }) rfl (fun K hK => ?_) AllReadyH.nil
  go_simp
  go_at_call 13
  refine (c_with [.int .i64 6, .int .i64 0, .string ⟨#[]⟩, .slice none 0 0, .slice A1 2 c1] [.int .i64 3, .int .i64 2, .string ⟨#[]⟩, .slice A3 0 c3, .slice B3 0 d3] _ (RdA.below HXV1.out HBu4.out (Nat.le_refl _) HBu4.out.size) (rd_two _ _ _ A3 B3 c3 d3)).mono ?_
  rintro e u5 ⟨⟨WA, wc, rfl⟩, hb⟩
  have HBu5 := Lib.hid (HBu4.out.trans (hb.mono HBu4.out.size))
  have HRu5 := Lib.hid (show u5.heap[b1]? = some (.cells #[.int .i64 6, .int .i64 0, .string ⟨#[]⟩, .slice none 0 0, .slice A1 2 c1] 25 (0, 0)) ∧ u5.heap[b2]? = some (.cells #[.int .i64 6, .int .i64 0, .string ⟨#[]⟩, .slice none 0 0, .slice A2 2 c2] 25 (0, 0)) ∧ u5.heap[b3]? = some (.cells #[.int .i64 3, .int .i64 2, .string ⟨#[]⟩, .slice A3 0 c3, .slice B3 0 d3] 25 (0, 0)) from ⟨(hb.block b1 (Nat.lt_of_lt_of_le HL1.out HBu4.out.size)).trans hHeld.1, (hb.block b2 (Nat.lt_of_lt_of_le HL2.out HBu4.out.size)).trans hHeld.2.1, (hb.block b3 (Nat.lt_of_lt_of_le HL3.out HBu4.out.size)).trans hHeld.2.2⟩)
  clear hb
  refine hK.out _ _ (HRu5.out) (fun hHeld => ?_)
  clear hK K
  try simp only [Act.put, List.setIfInBounds_toArray, List.set_cons_zero, List.set_cons_succ]
  refine wpAnyH_take (i := 30) (oi := { dst := some 49, op := Op.field 25 (Operand.tmp 48) 4, type := 23, pos := "law.go:24", after := #[{ on := 29, ground := Ground.data }, { on := 26, ground := Ground.guard }], guard := some (26, true) }) (v := ?_) rfl (by kernel_rfl) (by kernel_rfl) (by kernel_rfl) (fun _ _ _ h => h) (Or.inl ⟨by rfl, ?_⟩) hHeld ?_
  rotate_left
  · intro w hSw; (try dsimp only at hSw); go_simp; with_reducible rfl
  try simp only [Act.put, List.setIfInBounds_toArray, List.set_cons_zero, List.set_cons_succ]
  refine wpAnyH_take (i := 31) (oi := { dst := some 50, op := Op.call { callee := Callee.builtin Builtin.len, args := #[Operand.tmp 49], argTypes := #[23] }, type := 3, pos := "law.go:24", after := #[{ on := 30, ground := Ground.data }, { on := 26, ground := Ground.guard }], guard := some (26, true) }) (v := ?_) rfl (by kernel_rfl) (by kernel_rfl) (by kernel_rfl) (fun _ _ _ h => h) (Or.inl ⟨by rfl, ?_⟩) hHeld ?_
  rotate_left
  · intro w hSw; (try dsimp only at hSw); go_simp; with_reducible rfl
  try simp only [Act.put, List.setIfInBounds_toArray, List.set_cons_zero, List.set_cons_succ]
  refine wpAnyH_take (i := 32) (oi := { dst := some 51, op := Op.binOp BinOp.eql 3 (Operand.tmp 50) (Operand.const (Value.int IntKind.i64 3)) 3, type := 4, pos := "law.go:24", after := #[{ on := 31, ground := Ground.data }, { on := 26, ground := Ground.guard }], guard := some (26, true) }) (v := ?_) rfl (by kernel_rfl) (by kernel_rfl) (by kernel_rfl) (fun _ _ _ h => h) (Or.inl ⟨by rfl, ?_⟩) hHeld ?_
  rotate_left
  · intro w hSw; (try dsimp only at hSw); go_simp; with_reducible rfl
  try simp only [Act.put, List.setIfInBounds_toArray, List.set_cons_zero, List.set_cons_succ]
  refine wpAnyH_take (i := 33) (oi := { dst := some 52, op := Op.pick (Operand.tmp 45) (Operand.tmp 51) (Operand.const (Value.bool false)), type := 4, pos := "law.go:24", after := #[{ on := 26, ground := Ground.data }, { on := 32, ground := Ground.data }], guard := none }) (v := ?_) rfl (by kernel_rfl) (by kernel_rfl) (by kernel_rfl) (fun _ _ _ h => h) (Or.inl ⟨by rfl, ?_⟩) hHeld ?_
  rotate_left
  · intro w hSw; (try dsimp only at hSw); go_simp; with_reducible rfl
  try simp only [Act.put, List.setIfInBounds_toArray, List.set_cons_zero, List.set_cons_succ]
  refine wpAnyH_take (i := 34) (oi := { dst := some 53, op := Op.move (Operand.tmp 52), type := 4, pos := "law.go:24", after := #[{ on := 33, ground := Ground.data }, { on := 29, ground := Ground.chain }], guard := none }) (v := ?_) rfl (by kernel_rfl) (by kernel_rfl) (by kernel_rfl) (fun _ _ _ h => h) (Or.inl ⟨by rfl, ?_⟩) hHeld ?_
  rotate_left
  · intro w hSw; (try dsimp only at hSw); go_simp; with_reducible rfl
  try simp only [Act.put, List.setIfInBounds_toArray, List.set_cons_zero, List.set_cons_succ]
  refine wpAnyH_take (i := 35) (oi := { dst := some 54, op := Op.load 25 (Operand.tmp 1), type := 25, pos := "law.go:24", after := #[{ on := 34, ground := Ground.guard }], guard := some (34, true) }) (v := ?_) rfl (by kernel_rfl) (by kernel_rfl) (by kernel_rfl) (fun _ _ _ h => h) (Or.inl ⟨by rfl, ?_⟩) hHeld ?_
  rotate_left
  · intro w hSw; (try dsimp only at hSw); have q1 := (row5 hSw.1).1; obtain ⟨q10, q11, q12, q13, q14⟩ := q1; have q2 := (row5 hSw.2.1).1; obtain ⟨q20, q21, q22, q23, q24⟩ := q2; have q3 := (row5 hSw.2.2).1; obtain ⟨q30, q31, q32, q33, q34⟩ := q3; clear hSw; go_simp; with_reducible rfl
  try simp only [Act.put, List.setIfInBounds_toArray, List.set_cons_zero, List.set_cons_succ]
  refine wpAnyH_ready (rs := [36]) (by kernel_rfl) (by simp) ?_
  refine AllReadyH.cons (o := { dst := some 55, op := Op.call { callee := Callee.value (Operand.func 15), args := #[Operand.tmp 54, Operand.const (Value.string { data := #[97] })], argTypes := #[25, 9] }, type := 25, pos := "law.go:24", after := #[{ on := 35, ground := Ground.data }, { on := 34, ground := Ground.chain }, { on := 34, ground := Ground.guard }], guard := some (34, true) }) rfl (fun K hK => ?_) AllReadyH.nil
  go_simp
  go_at_call 15
  refine (c_without [.int .i64 6, .int .i64 0, .string ⟨#[]⟩, .slice none 0 0, .slice A1 2 c1] _ (RdA.below HXV1.out HBu5.out (Nat.le_refl _) HBu5.out.size)).mono ?_
  rintro e u6 ⟨⟨XA, xc, rfl⟩, hb⟩
  have HBu6 := Lib.hid (HBu5.out.trans (hb.mono HBu5.out.size))
  have HRu6 := Lib.hid (show u6.heap[b1]? = some (.cells #[.int .i64 6, .int .i64 0, .string ⟨#[]⟩, .slice none 0 0, .slice A1 2 c1] 25 (0, 0)) ∧ u6.heap[b2]? = some (.cells #[.int .i64 6, .int .i64 0, .string ⟨#[]⟩, .slice none 0 0, .slice A2 2 c2] 25 (0, 0)) ∧ u6.heap[b3]? = some (.cells #[.int .i64 3, .int .i64 2, .string ⟨#[]⟩, .slice A3 0 c3, .slice B3 0 d3] 25 (0, 0)) from ⟨(hb.block b1 (Nat.lt_of_lt_of_le HL1.out HBu5.out.size)).trans hHeld.1, (hb.block b2 (Nat.lt_of_lt_of_le HL2.out HBu5.out.size)).trans hHeld.2.1, (hb.block b3 (Nat.lt_of_lt_of_le HL3.out HBu5.out.size)).trans hHeld.2.2⟩)
  clear hb
  refine hK.out _ _ (HRu6.out) (fun hHeld => ?_)
  clear hK K
  try simp only [Act.put, List.setIfInBounds_toArray, List.set_cons_zero, List.set_cons_succ]
  refine wpAnyH_take (i := 37) (oi := { dst := some 56, op := Op.field 25 (Operand.tmp 55) 4, type := 23, pos := "law.go:24", after := #[{ on := 36, ground := Ground.data }, { on := 34, ground := Ground.guard }], guard := some (34, true) }) (v := ?_) rfl (by kernel_rfl) (by kernel_rfl) (by kernel_rfl) (fun _ _ _ h => h) (Or.inl ⟨by rfl, ?_⟩) hHeld ?_
  rotate_left
  · intro w hSw; (try dsimp only at hSw); go_simp; with_reducible rfl
  try simp only [Act.put, List.setIfInBounds_toArray, List.set_cons_zero, List.set_cons_succ]
  refine wpAnyH_take (i := 38) (oi := { dst := some 57, op := Op.call { callee := Callee.builtin Builtin.len, args := #[Operand.tmp 56], argTypes := #[23] }, type := 3, pos := "law.go:24", after := #[{ on := 37, ground := Ground.data }, { on := 34, ground := Ground.guard }], guard := some (34, true) }) (v := ?_) rfl (by kernel_rfl) (by kernel_rfl) (by kernel_rfl) (fun _ _ _ h => h) (Or.inl ⟨by rfl, ?_⟩) hHeld ?_
  rotate_left
  · intro w hSw; (try dsimp only at hSw); go_simp; with_reducible rfl
  try simp only [Act.put, List.setIfInBounds_toArray, List.set_cons_zero, List.set_cons_succ]
  refine wpAnyH_take (i := 39) (oi := { dst := some 58, op := Op.binOp BinOp.eql 3 (Operand.tmp 57) (Operand.const (Value.int IntKind.i64 1)) 3, type := 4, pos := "law.go:24", after := #[{ on := 38, ground := Ground.data }, { on := 34, ground := Ground.guard }], guard := some (34, true) }) (v := ?_) rfl (by kernel_rfl) (by kernel_rfl) (by kernel_rfl) (fun _ _ _ h => h) (Or.inl ⟨by rfl, ?_⟩) hHeld ?_
  rotate_left
  · intro w hSw; (try dsimp only at hSw); go_simp; with_reducible rfl
  try simp only [Act.put, List.setIfInBounds_toArray, List.set_cons_zero, List.set_cons_succ]
  refine wpAnyH_take (i := 40) (oi := { dst := some 59, op := Op.pick (Operand.tmp 53) (Operand.tmp 58) (Operand.const (Value.bool false)), type := 4, pos := "law.go:24", after := #[{ on := 34, ground := Ground.data }, { on := 39, ground := Ground.data }], guard := none }) (v := ?_) rfl (by kernel_rfl) (by kernel_rfl) (by kernel_rfl) (fun _ _ _ h => h) (Or.inl ⟨by rfl, ?_⟩) hHeld ?_
  rotate_left
  · intro w hSw; (try dsimp only at hSw); go_simp; with_reducible rfl
  try simp only [Act.put, List.setIfInBounds_toArray, List.set_cons_zero, List.set_cons_succ]
  refine wpAnyH_take (i := 41) (oi := { dst := some 0, op := Op.assign (Operand.tmp 59), type := 4, pos := "law.go:24", after := #[{ on := 40, ground := Ground.data }, { on := 36, ground := Ground.chain }, { on := 0, ground := Ground.phase }, { on := 1, ground := Ground.phase }, { on := 2, ground := Ground.phase }, { on := 3, ground := Ground.phase }, { on := 4, ground := Ground.phase }, { on := 5, ground := Ground.phase }, { on := 6, ground := Ground.phase }, { on := 7, ground := Ground.phase }, { on := 8, ground := Ground.phase }, { on := 9, ground := Ground.phase }, { on := 10, ground := Ground.phase }, { on := 11, ground := Ground.phase }, { on := 12, ground := Ground.phase }, { on := 13, ground := Ground.phase }, { on := 14, ground := Ground.phase }, { on := 15, ground := Ground.phase }, { on := 16, ground := Ground.phase }, { on := 17, ground := Ground.phase }, { on := 18, ground := Ground.phase }, { on := 19, ground := Ground.phase }, { on := 20, ground := Ground.phase }, { on := 21, ground := Ground.phase }, { on := 22, ground := Ground.phase }, { on := 23, ground := Ground.phase }, { on := 24, ground := Ground.phase }, { on := 25, ground := Ground.phase }, { on := 26, ground := Ground.phase }, { on := 27, ground := Ground.phase }, { on := 28, ground := Ground.phase }, { on := 29, ground := Ground.phase }, { on := 30, ground := Ground.phase }, { on := 31, ground := Ground.phase }, { on := 32, ground := Ground.phase }, { on := 33, ground := Ground.phase }, { on := 34, ground := Ground.phase }, { on := 35, ground := Ground.phase }, { on := 36, ground := Ground.phase }, { on := 37, ground := Ground.phase }, { on := 38, ground := Ground.phase }, { on := 39, ground := Ground.phase }, { on := 40, ground := Ground.phase }], guard := none }) (v := ?_) rfl (by kernel_rfl) (by kernel_rfl) (by kernel_rfl) (fun _ _ _ h => h) (Or.inl ⟨by rfl, ?_⟩) hHeld ?_
  rotate_left
  · intro w hSw; (try dsimp only at hSw); go_simp; with_reducible rfl
  try simp only [Act.put, List.setIfInBounds_toArray, List.set_cons_zero]
  refine wpAnyH_done (by kernel_rfl) ?_ _
  have HFIN := Lib.hid (HBW.out.trans (HBu6.out.mono HBW.out.size))
  go_wp2
  go_ret
  exact ⟨rfl, HFIN.out⟩
end Go.Proofs.Ytbepnjgbkfidiaa.Tr
/- What sorting keeps. -/
namespace Go.Proofs.Ytbepnjgbkfidiaa.Tr
open Go.Proofs Go.RowKit Go.Lib
open Go.Proofs.Ytbepnjgbkfidiaa.Utf
open Go.Proofs.Ytbepnjgbkfidiaa.Sc
open Go.Proofs.Ytbepnjgbkfidiaa.Re
open Go.Proofs.Ytbepnjgbkfidiaa.Em (allV allL lenV lenL own_l own_m)

mutual
theorem oV_of_all : ∀ v : V, allV v → oV v
  | .mk k n s l ns ms, h => by
    rw [allV] at h
    rw [oV]
    exact ⟨fun hk => own_l h.1 hk, fun hk => own_m h.1 hk, oL_of_all l h.2.1, oL_of_all ms h.2.2⟩
theorem oL_of_all : ∀ l : List V, allL l → oL l
  | [], _ => by rw [oL]; trivial
  | v :: r, h => by
    rw [allL] at h
    rw [oL]
    exact ⟨oV_of_all v h.1, oL_of_all r h.2⟩
end
theorem cntL_perm {l r : List V} (h : l.Perm r) : cntL l = cntL r := by
  induction h with
  | nil => rfl
  | cons x _ ih => rw [cntL, cntL, ih]
  | swap x y l => rw [cntL, cntL, cntL, cntL]; omega
  | trans _ _ h1 h2 => exact h1.trans h2
theorem oL_perm {l r : List V} (h : l.Perm r) (ho : oL l) : oL r := by
  induction h with
  | nil => exact ho
  | cons x _ ih => rw [oL] at ho ⊢; exact ⟨ho.1, ih ho.2⟩
  | swap x y l => rw [oL, oL] at ho ⊢; exact ⟨ho.2.1, ho.1, ho.2.2⟩
  | trans _ _ h1 h2 => exact h2 (h1 ho)
theorem lenL_perm {l r : List V} (h : l.Perm r) (ho : lenL l) : lenL r := by
  induction h with
  | nil => exact ho
  | cons x _ ih => rw [lenL] at ho ⊢; exact ⟨ho.1, ih ho.2⟩
  | swap x y l => rw [lenL, lenL] at ho ⊢; exact ⟨ho.2.1, ho.1, ho.2.2⟩
  | trans _ _ h1 h2 => exact h2 (h1 ho)
theorem snd_perm {v : V} {P : List (List UInt8 × V)} (hl : v.ns.length = v.ms.length) (p : P.Perm (v.ns.zip v.ms)) : (P.map Prod.snd).Perm v.ms := by
  have := p.map Prod.snd
  rwa [List.map_snd_zip (by omega)] at this
theorem lenV_eq (v : V) : lenV v ↔ v.ns.length = v.ms.length ∧ lenL v.l ∧ lenL v.ms := by cases v; rw [lenV]; rfl
mutual
theorem Srt_keeps : ∀ (a v : V), Srt a v → lenV v → cnt a = cnt v ∧ (oV v → oV a)
  | .mk k n s l ns ms, v, h, hl => by
    rw [Srt] at h
    obtain ⟨h1, h2, h3, h4, h5, -, P, p1, p2, p3⟩ := h
    have hv := (lenV_eq v).1 hl
    have hp := snd_perm hv.1 p1
    have k1 := SrtL_keeps l v.l h4 hv.2.1
    have k2 := SrtL_keeps ms _ p3 (lenL_perm hp.symm hv.2.2)
    refine ⟨?_, fun ho => ?_⟩
    · rw [cnt, cnt_eq v, k1.1, k2.1, cntL_perm hp]
    · have ho' := (oV_eq v).1 ho
      rw [oV]
      refine ⟨fun hk => ?_, fun hk => ?_, k1.2 ho'.2.2.1, k2.2 (oL_perm hp.symm ho'.2.2.2)⟩
      · have e := ho'.1 (by rw [← h1]; exact hk)
        exact List.eq_nil_of_length_eq_zero (by rw [((SrtL_iff _ _).1 h4).1, e]; rfl)
      · have e := ho'.2.1 (by rw [← h1]; exact hk)
        refine List.eq_nil_of_length_eq_zero ?_
        rw [((SrtL_iff _ _).1 p3).1, hp.length_eq, e]
        rfl
theorem SrtL_keeps : ∀ (l r : List V), SrtL l r → lenL r → cntL l = cntL r ∧ (oL r → oL l)
  | [], r, h, _ => by
    rw [SrtL] at h
    subst h
    exact ⟨rfl, fun h => h⟩
  | x :: t, r, h, hl => by
    rw [SrtL] at h
    obtain ⟨y, u, rfl, h1, h2⟩ := h
    rw [lenL] at hl
    have k1 := Srt_keeps x y h1 hl.1
    have k2 := SrtL_keeps t u h2 hl.2
    refine ⟨?_, fun ho => ?_⟩
    · rw [cntL, cntL, k1.1, k2.1]
    · rw [oL] at ho ⊢
      exact ⟨k1.2 ho.1, k2.2 ho.2⟩
end
theorem cnt_pos (v : V) : 1 ≤ cnt v := by rw [cnt_eq]; omega
theorem cnt_two (v : V) : cnt (lsV [v, v]) = 2 * cnt v + 1 := by
  unfold lsV
  simp only [cnt, cntL]
  omega
theorem o_two (v : V) (h : oV v) : oV (lsV [v, v]) := by
  unfold lsV
  rw [oV, oL, oL, oL]
  exact ⟨fun h => absurd rfl h, fun _ => rfl, ⟨h, h, trivial⟩, trivial⟩
/-- a list of a value, twice -/
theorem rd_twice {w : World} {g : Nat} {v : V} {cs : List Value} (hg : g < w.heap.size) (h1 : ∀ j u, cs[j]? = some u → w.cell? ⟨g, j, none⟩ = some u) (h2 : ∀ j u, cs[j]? = some u → w.cell? ⟨g, 5 + j, none⟩ = some u) (hr : RdA w 0 w.heap.size v cs) :
    RdA w 0 w.heap.size (lsV [v, v]) [.int .i64 5, .int .i64 0, .string ⟨#[]⟩, .slice (some ⟨g, 0, none⟩) 2 2, .slice none 0 0] := by
  unfold lsV
  rw [RdA]
  refine ⟨some ⟨g, 0, none⟩, 2, none, 0, rfl, rfl, fun _ => ⟨g, 0, rfl, Nat.zero_le _, hg, ?_⟩, fun h => absurd h (by simp)⟩
  rw [RdAL, RdAL, RdAL]
  exact ⟨⟨cs, fun j u hu => by rw [Nat.zero_add]; exact h1 j u hu, hr⟩, ⟨cs, fun j u hu => by rw [Nat.zero_add]; exact h2 j u hu, hr⟩, trivial⟩
end Go.Proofs.Ytbepnjgbkfidiaa.Tr
