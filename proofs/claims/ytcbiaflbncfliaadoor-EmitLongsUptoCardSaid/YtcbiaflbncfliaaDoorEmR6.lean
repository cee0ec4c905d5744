import Derived.Test.YtcbiaflbncfliaaDoorEmR5
/- Contracts of the document's answer: Long and Text. -/
namespace Go.Proofs.YtcbiaflbncfliaaDoor.Em
open Go.RowKit
open Go.Proofs.YtcbiaflbncfliaaDoor.Utf
open Go.Proofs.YtcbiaflbncfliaaDoor.Sc
open Go.Proofs.YtcbiaflbncfliaaDoor.Re
open Go.Proofs.YtcbiaflbncfliaaDoor.Ch (Tab)
open Go.Proofs.YtcbiaflbncfliaaDoor.Nu (putL)

/-- write, from nothing -/
theorem write_top (v : V) (cs : List Value) (w w1 : World) (hl : lenV v) (hz : szU v ≤ 1099511627776) (hm : mx 1048576 v) (hsz : szA 4611686018427387904 v) (hok : okW v) (hR : RdA w 0 w.heap.size v cs) (hT : Tab w) (h0 : 0 < w.heap.size) (hb : Below w.heap.size w w1) :
    Calls Tryd.prog 15 #[.slice none 0 0, .agg cs.toArray] w1 (GivesO w.heap.size (fun _ => False) (emV v) w1) := by
  have hel := emV_len v hl
  have := write_any 0 w.heap.size w.heap.size h0 (Nat.le_refl _) (ht v) v (Nat.le_refl _) hok hm hsz cs (fun _ => False) (.slice none 0 0) [] w1 (hR.below hb (Nat.le_refl _) (Nat.le_refl _))
    ⟨World.ownsRow_nil _ _ _ _, fun _ _ h => h, fun _ h => absurd h (fun h => h)⟩ (hT.below hb h0 hb.size) hb.size (by simp; omega)
  exact this

/-- what the document's Long tells of a value -/
def GivesLr (v : V) (w : World) (e : Ending) (w' : World) : Prop := Below w.heap.size w w' ∧ ((allV v ∧ e = .returned (.string (strOf (emV v)))) ∨ (¬ allV v ∧ e = .returned (.string (strOf []))))

set_option maxRecDepth 100000 in
set_option maxHeartbeats 8000000 in
theorem rLong_any (v : V) (cs : List Value) (w : World) (hl : lenV v) (hs : small v) (hz : szU v ≤ 1099511627776) (hm : mx 1048576 v) (hsz : szA 4611686018427387904 v) (hR : RdA w 0 w.heap.size v cs) (hT : Tab w) (h0 : 0 < w.heap.size) :
    Calls Tryd.prog 9 #[.agg cs.toArray] w (GivesLr v w) := by
  obtain ⟨A, c, A2, c2, e, _, _, _⟩ := hR.cells
  have hc := fun w1 (hb : Below w.heap.size w w1) => rall_any (ht v) v cs w1 (Nat.le_refl _) hsz hm (hR.below hb (Nat.le_refl _) hb.size)
  have hg := fun hok w1 (hb : Below w.heap.size w w1) => write_top v cs w w1 hl hz hm hsz hok hR hT h0 hb
  have hiff := okW_iff v hs hl
  rw [e] at hc hg ⊢
  clear hR
  unfold GivesLr
  have HI := Lib.hid hiff.2; clear hiff
  generalize okW v = OKW at *
  generalize allV v = ALL at *
  generalize emV v = EM at *
  generalize v.k = y1 at *
  generalize v.n = y2 at *
  generalize strOf v.s = y3 at *
  generalize v.l.length = y4 at *
  generalize v.ms.length = y5 at *
  have HC := Lib.hid hc; clear hc
  have HG := Lib.hid hg; clear hg
  have hbx := (Below.refl w.heap.size w).alloc (Nat.le_refl _) (.cells #[.int .i64 y1, .int .i64 y2, .string y3, .slice A y4 c, .slice A2 y5 c2] 25)
  have HB := Lib.hid hbx; clear hbx
  have FE : ∀ (j : Nat) u, ([.int .i64 y1, .int .i64 y2, .string y3, .slice A y4 c, .slice A2 y5 c2] : List Value)[j]? = some u → (w.alloc (.cells #[.int .i64 y1, .int .i64 y2, .string y3, .slice A y4 c, .slice A2 y5 c2] 25)).cell? ⟨w.heap.size, j, none⟩ = some u := fun j u hu => by
    rw [cell_of_row _ _ j _ _ _ (heap_alloc_new w _)]
    simpa using hu
  go_enter Tryd.func9, Tryd.ntmps9
  go_wp2_with fail
  refine (HC.out _ HB.out).mono ?_
  rintro e w1 ⟨⟨b, rfl, hbv⟩, hb1⟩
  have hcell : ∀ (j : Nat) u, ([.int .i64 y1, .int .i64 y2, .string y3, .slice A y4 c, .slice A2 y5 c2] : List Value)[j]? = some u → w1.cell? ⟨w.heap.size, j, none⟩ = some u := fun j u hu => (hb1.cell (p := ⟨w.heap.size, j, none⟩) (by simp)).trans (FE j u hu)
  have d0 := hcell 0 _ rfl
  have d1 := hcell 1 _ rfl
  have d2 := hcell 2 _ rfl
  have d3 := hcell 3 _ rfl
  have d4 := hcell 4 _ rfl
  clear hcell FE
  have HB1 := Lib.hid (HB.out.trans (hb1.mono (by simp))); clear hb1
  have HV := Lib.hid hbv; clear hbv
  cases b with
  | false =>
    go_wp2_with fail
    go_ret
    exact ⟨HB1.out, .inr ⟨fun h => absurd (HV.out.2 h) (by decide), rfl⟩⟩
  | true =>
    go_wp2_with fail
    refine (HG.out (HI.out (HV.out.1 trivial)) _ HB1.out).mono ?_
    rintro e w2 ⟨o, rfl, hO, hk⟩
    have HB2 := Lib.hid (HB1.out.trans hk.1); clear hk
    have hcv := (Rd.of_own hO.1).conv (P := Tryd.prog) Tryd.underlying41 Tryd.underlying5 Tryd.underlying9
    obtain ⟨A3, c3, rfl⟩ := own_shape hO.1
    clear hO
    go_wp2_with fail
    go_ret
    exact ⟨HB2.out, .inl ⟨HV.out.1 trivial, rfl⟩⟩

/-- what the document's Text tells of a value -/
def GivesTr (v : V) (w : World) (e : Ending) (w' : World) : Prop := e = .returned (.tuple #[.string (strOf (if chk v = 0 then emV v else [])), .int .i64 (chk v)]) ∧ Below w.heap.size w w'

set_option maxRecDepth 100000 in
set_option maxHeartbeats 8000000 in
theorem rText_any (v : V) (cs : List Value) (w : World) (hl : lenV v) (hz : szU v ≤ 1099511627776) (hm : mx 1048576 v) (hsz : szA 4611686018427387904 v) (hR : RdA w 0 w.heap.size v cs) (hT : Tab w) (h0 : 0 < w.heap.size) :
    Calls Tryd.prog 11 #[.agg cs.toArray] w (GivesTr v w) := by
  obtain ⟨A, c, A2, c2, e, _, _, _⟩ := hR.cells
  have hc := fun w1 (hb : Below w.heap.size w w1) => rCheck_any v cs w1 hsz hm (hR.below hb (Nat.le_refl _) hb.size)
  have hg := fun hok w1 (hb : Below w.heap.size w w1) => write_top v cs w w1 hl hz hm hsz hok hR hT h0 hb
  have hok := fun h => chk_okW (v := v) h hl
  rw [e] at hc hg ⊢
  clear hR
  unfold GivesTr
  generalize okW v = OKW at *
  generalize chk v = y at *
  generalize emV v = EM at *
  generalize v.k = y1 at *
  generalize v.n = y2 at *
  generalize strOf v.s = y3 at *
  generalize v.l.length = y4 at *
  generalize v.ms.length = y5 at *
  have HC := Lib.hid hc; clear hc
  have HG := Lib.hid hg; clear hg
  have hbx := (Below.refl w.heap.size w).alloc (Nat.le_refl _) (.cells #[.int .i64 y1, .int .i64 y2, .string y3, .slice A y4 c, .slice A2 y5 c2] 25)
  have HB := Lib.hid hbx; clear hbx
  have FE : ∀ (j : Nat) u, ([.int .i64 y1, .int .i64 y2, .string y3, .slice A y4 c, .slice A2 y5 c2] : List Value)[j]? = some u → (w.alloc (.cells #[.int .i64 y1, .int .i64 y2, .string y3, .slice A y4 c, .slice A2 y5 c2] 25)).cell? ⟨w.heap.size, j, none⟩ = some u := fun j u hu => by
    rw [cell_of_row _ _ j _ _ _ (heap_alloc_new w _)]
    simpa using hu
  by_cases hy : y = 0
  · subst hy
    have HO := Lib.hid (hok rfl); clear hok
    rw [if_pos rfl]
    go_enter Tryd.func11, Tryd.ntmps11
    go_wp2_with fail
    refine (HC.out _ HB.out).mono ?_
    rintro e w1 ⟨rfl, hb1⟩
    have hcell : ∀ (j : Nat) u, ([.int .i64 y1, .int .i64 y2, .string y3, .slice A y4 c, .slice A2 y5 c2] : List Value)[j]? = some u → w1.cell? ⟨w.heap.size, j, none⟩ = some u := fun j u hu => (hb1.cell (p := ⟨w.heap.size, j, none⟩) (by simp)).trans (FE j u hu)
    have d0 := hcell 0 _ rfl
    have d1 := hcell 1 _ rfl
    have d2 := hcell 2 _ rfl
    have d3 := hcell 3 _ rfl
    have d4 := hcell 4 _ rfl
    clear hcell FE
    have HB1 := Lib.hid (HB.out.trans (hb1.mono (by simp))); clear hb1
    go_wp2_with fail
    refine (HG.out HO.out _ HB1.out).mono ?_
    rintro e w2 ⟨o, rfl, hO, hk⟩
    have HB2 := Lib.hid (HB1.out.trans hk.1); clear hk
    have hcv := (Rd.of_own hO.1).conv (P := Tryd.prog) Tryd.underlying41 Tryd.underlying5 Tryd.underlying9
    obtain ⟨A3, c3, rfl⟩ := own_shape hO.1
    clear hO
    go_wp2_with fail
    go_ret2
    exact ⟨rfl, HB2.out⟩
  · have t1 : (y != 0) = true := by rw [bne_iff_ne]; exact hy
    rw [if_neg hy]
    clear hy hok
    go_enter Tryd.func11, Tryd.ntmps11
    go_wp2_with fail
    refine (HC.out _ HB.out).mono ?_
    rintro e w1 ⟨rfl, hb1⟩
    have HB1 := Lib.hid (HB.out.trans (hb1.mono (by simp))); clear hb1 FE
    go_wp2_with fail
    go_ret2
    exact ⟨rfl, HB1.out⟩
end Go.Proofs.YtcbiaflbncfliaaDoor.Em
