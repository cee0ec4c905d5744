import Derived.Test.YthokaeaefmajjaaDoorScA
import Derived.BigQuiet
/- Contracts of package scan's text, number, word; of strings' HasPrefix. -/
namespace Go.Proofs.YthokaeaefmajjaaDoor.Sc
open Go.RowKit
open Go.Proofs.YthokaeaefmajjaaDoor.Utf

theorem Scr.keep {B b : Nat} {s : ByteArray} {k : Int} {ts : List Tok} {w w' : World} (h : Scr B b s k ts w) (hb : Below w.heap.size w w') : Scr B b s k ts w' := by
  obtain ⟨v, h1, h2, h3⟩ := h
  exact ⟨v, (hb.block b (Array.getElem?_eq_some_iff.1 h1).1).trans h1, own_below h2 hb, h3⟩
theorem Scr.cells {B b : Nat} {s : ByteArray} {k : Int} {ts : List Tok} {w : World} (h : Scr B b s k ts w) :
    b < w.heap.size ∧ w.cell? ⟨b, 0, none⟩ = some (.string s) ∧ w.cell? ⟨b, 1, none⟩ = some (.int .i64 k) ∧ w.frozen? ⟨b, 1, none⟩ = false := by
  obtain ⟨v, h1, _, _⟩ := h
  exact ⟨(Array.getElem?_eq_some_iff.1 h1).1, by rw [cell_of_row w b 0 _ _ _ h1]; rfl, by rw [cell_of_row w b 1 _ _ _ h1]; rfl, frozen_of_row w b 1 _ _ h1⟩

/-- what a step hands back: a token laid, the scanner behind it; or the place of a fault, and why -/
def Steps (B b : Nat) (s : ByteArray) (ts : List Tok) (r : Option Tok × Int × Int) (w : World) (e : Ending) (w' : World) : Prop :=
  Below B w w' ∧ ((r.2.2 = 0 ∧ e = .returned (.tuple #[.int .i64 0, .int .i64 0]) ∧ Scr B b s r.2.1 (ts ++ r.1.toList) w') ∨ (r.2.2 ≠ 0 ∧ e = .returned (.tuple #[.int .i64 r.2.1, .int .i64 r.2.2])))

set_option maxHeartbeats 400000 in
theorem pre_any (x y : ByteArray) (w : World) :
    Calls Tryd.prog 41 #[.string x, .string y] w fun e w' => e = .returned (.bool (decide (x.data.toList.take y.size = y.data.toList))) ∧ w = w' := by
  by_cases h : y.size ≤ x.size
  · have hd : decide ((y.size : Int) ≤ (x.size : Int)) = true := decide_eq_true (by omega)
    have hd' : decide (y.size ≤ x.size) = true := decide_eq_true h
    have he : (x.extract 0 y.size).toList = x.data.toList.take y.size := by rw [ByteArray.toList_eq, ByteArray.data_extract]; simp
    go_enter Tryd.func41, Tryd.ntmps41
    go_wp2_with fail
    go_ret
    exact ⟨ret_bool (by rw [ByteArray.toList_eq, Bool.eq_iff_iff]; simp), rfl⟩
  · have hd : decide ((y.size : Int) ≤ (x.size : Int)) = false := decide_eq_false (by omega)
    have hd' : decide (y.size ≤ x.size) = false := decide_eq_false h
    have hn : ¬ x.data.toList.take y.size = y.data.toList := by
      intro e
      have := congrArg List.length e
      rw [List.length_take, len_data, len_data] at this
      omega
    go_enter Tryd.func41, Tryd.ntmps41
    go_wp2_with fail
    go_ret
    exact ⟨ret_bool (decide_eq_false hn).symm, rfl⟩
theorem prefix_any (x y : ByteArray) (w : World) :
    Calls Tryd.prog 30 #[.string x, .string y] w fun e w' => e = .returned (.bool (decide (x.data.toList.take y.size = y.data.toList))) ∧ w = w' := by
  go_enter Tryd.func30, Tryd.ntmps30
  go_wp2_with fail
  refine (pre_any x y _).mono ?_
  rintro e w' ⟨rfl, rfl⟩
  go_wp2_with fail
  go_ret
  exact ⟨rfl, rfl⟩

set_option maxHeartbeats 2000000 in
theorem text_any (B b : Nat) (s : ByteArray) (k : Nat) (ts : List Tok) (w : World) (h : Scr B b s k ts w) (hB : B ≤ w.heap.size) (hr : (ts.length + 1) * 40 ≤ 140737488355328) (hs : s.size ≤ 65536) :
    Calls Tryd.prog 18 #[.pointer (some ⟨b, 0, none⟩)] w (Steps B b s ts (txT s.data.toList k) w) := by
  obtain ⟨hlt, c0, c1, _⟩ := h.cells
  have HL := fun w1 (hw : Below w.heap.size w w1) t n => lay_any B b s k ts 4 0 (strOf t) 0 n w1 (h.keep hw) hr
  have HS := Lib.hid h; clear h
  rcases hR : Ch.readS s.data.toList k with ⟨t, n, er⟩
  have hr' := Ch.Read_fit s k
  rw [hR] at hr'
  have HR := Lib.hid hr'; clear hr'
  unfold txT
  rw [hR]
  clear hR
  simp only
  by_cases he : er = 0
  · subst he
    rw [if_pos rfl]
    go_enter Tryd.func18, Tryd.ntmps18
    go_wp2_with fail
    go_region_held3 (fun w' => w'.cell? ⟨b, 0, none⟩ = some (.string s) ∧ w'.cell? ⟨b, 1, none⟩ = some (.int .i64 k))
      (first | go_keep | exact ⟨(hb1.cell (p := ⟨b, 0, none⟩) hlt).trans c0, (hb1.cell (p := ⟨b, 1, none⟩) hlt).trans c1⟩)
      ((go_at_call 28; refine (HR.out _ (by omega)).mono ?_; rintro e w1 ⟨rfl, hb1⟩))
    have hb2 : Below w.heap.size w w1 := ((Below.refl _ w).drew).trans hb1
    go_wp2_with fail
    refine (HL w1 hb2 t n).mono ?_
    rintro e w2 ⟨rfl, hs2, hb3⟩
    go_wp2_with fail
    go_ret2
    exact ⟨(hb2.mono hB).trans hb3, .inl ⟨rfl, rfl, hs2⟩⟩
  · rw [if_neg he]
    have hd : (er != 0) = true := by rw [bne_iff_ne]; exact he
    go_enter Tryd.func18, Tryd.ntmps18
    go_wp2_with fail
    go_region_held3 (fun w' => w'.cell? ⟨b, 0, none⟩ = some (.string s) ∧ w'.cell? ⟨b, 1, none⟩ = some (.int .i64 k))
      (first | go_keep | exact ⟨(hb1.cell (p := ⟨b, 0, none⟩) hlt).trans c0, (hb1.cell (p := ⟨b, 1, none⟩) hlt).trans c1⟩)
      ((go_at_call 28; refine (HR.out _ (by omega)).mono ?_; rintro e w1 ⟨rfl, hb1⟩))
    have hb2 : Below w.heap.size w w1 := ((Below.refl _ w).drew).trans hb1
    go_wp2_with fail
    go_ret2
    exact ⟨hb2.mono hB, .inr ⟨he, rfl⟩⟩

set_option maxHeartbeats 2000000 in
theorem number_any (B b : Nat) (s : ByteArray) (k : Nat) (ts : List Tok) (w : World) (h : Scr B b s k ts w) (hB : B ≤ w.heap.size) (hr : (ts.length + 1) * 40 ≤ 140737488355328) (hs : s.size ≤ 65536) :
    Calls Tryd.prog 19 #[.pointer (some ⟨b, 0, none⟩)] w (Steps B b s ts (nmT s.data.toList k) w) := by
  obtain ⟨hlt, c0, c1, _⟩ := h.cells
  have HL := fun w1 (hw : Below w.heap.size w w1) t n => lay_any B b s k ts 3 t ByteArray.empty 0 n w1 (h.keep hw) hr
  have HS := Lib.hid h; clear h
  rcases hR : Nu.rdS s.data.toList k with ⟨t, n, er⟩
  have hr' := Nu.Read_any s k
  rw [hR] at hr'
  have HR := Lib.hid hr'; clear hr'
  unfold nmT
  rw [hR]
  clear hR
  simp only
  by_cases he : er = 0
  · subst he
    rw [if_pos rfl]
    go_enter Tryd.func19, Tryd.ntmps19
    go_wp2_with fail
    go_region_held3 (fun w' => w'.cell? ⟨b, 0, none⟩ = some (.string s) ∧ w'.cell? ⟨b, 1, none⟩ = some (.int .i64 k))
      (go_keep)
      ((go_at_call 29; refine (HR.out _ (by omega)).mono ?_; rintro e w1 ⟨rfl, rfl⟩))
    have hb2 : Below w.heap.size w w.drew := (Below.refl _ w).drew
    go_wp2_with fail
    refine (HL _ hb2 t n).mono ?_
    rintro e w2 ⟨rfl, hs2, hb3⟩
    go_wp2_with fail
    go_ret2
    exact ⟨(hb2.mono hB).trans hb3, .inl ⟨rfl, rfl, hs2⟩⟩
  · rw [if_neg he]
    have hd : (er != 0) = true := by rw [bne_iff_ne]; exact he
    go_enter Tryd.func19, Tryd.ntmps19
    go_wp2_with fail
    go_region_held3 (fun w' => w'.cell? ⟨b, 0, none⟩ = some (.string s) ∧ w'.cell? ⟨b, 1, none⟩ = some (.int .i64 k))
      (go_keep)
      ((go_at_call 29; refine (HR.out _ (by omega)).mono ?_; rintro e w1 ⟨rfl, rfl⟩))
    have hb2 : Below w.heap.size w w.drew := (Below.refl _ w).drew
    go_wp2_with fail
    go_ret2
    exact ⟨hb2.mono hB, .inr ⟨he, rfl⟩⟩
end Go.Proofs.YthokaeaefmajjaaDoor.Sc
