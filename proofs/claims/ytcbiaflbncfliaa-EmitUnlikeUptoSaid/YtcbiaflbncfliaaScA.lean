import Derived.Test.YtcbiaflbncfliaaScPl
import Derived.Test.YtcbiaflbncfliaaChW0
import Derived.Test.YtcbiaflbncfliaaNuA
import Derived.Deep.RegionHeld3
import Derived.Deep.AppendLies
import Derived.Deep.RegionLaw
import Derived.BigQuiet
/- Contracts of package scan's small calls: isOfWord, HasPrefix, lay. -/
namespace Go.Proofs.Ytcbiaflbncfliaa.Sc
open Go.RowKit
open Go.Proofs.Ytcbiaflbncfliaa.Utf

theorem infoTok : (Try.prog.info? 47).map (fun i => (i.zero, i.size, i.bytes)) = some (some (.agg #[.int .i64 0, .int .i64 0, .string ByteArray.empty, .int .i64 0]), 4, 40) := by kernel_rfl

/-- what is owned stays so while a cell of a block of another type is written -/
theorem own_other {w : World} {base e size n : Nat} {v : Value} {xs : List Value} {b t : Nat} {cs : Array Value} {fr : Nat × Nat} (h : w.ownsRow base e size v n xs) (hb : w.heap[b]? = some (.cells cs t fr)) (ht : t ≠ e) (p : Addr) (hp : p.block = b) (u : Value) :
    (w.setCell p u).ownsRow base e size v n xs := by
  obtain ⟨h1, h2⟩ := h
  refine ⟨h1, ?_⟩
  rcases h2 with h2 | ⟨g, cap, cur, hv, hg, hh, r⟩
  · exact .inl h2
  · refine .inr ⟨g, cap, cur, hv, hg, ?_, r⟩
    rw [heap_setCell_other w p g u ?_, hh]
    rintro rfl
    rw [hp, hb] at hh
    simp at hh
    exact ht hh.2.1
/-- a token's cells -/
def tokC (t : Tok) : List Value := [.int .i64 t.1, .int .i64 t.2.1, .string (strOf t.2.2.1), .int .i64 t.2.2.2]
def toksC (ts : List Tok) : List Value := (ts.map tokC).flatten
theorem toksC_app (a b : List Tok) : toksC (a ++ b) = toksC a ++ toksC b := by simp [toksC]
theorem toksC_one (t : Tok) : toksC [t] = tokC t := by simp [toksC]
theorem toksC_len (ts : List Tok) : (toksC ts).length = ts.length * 4 := by
  induction ts with
  | nil => rfl
  | cons a r ih => rw [show a :: r = [a] ++ r from rfl, toksC_app, List.length_append, ih, toksC_one, tokC]; simp; omega

/-- the scanner, in its block b: its text, its place, its tokens in memory from B on -/
def Scr (B b : Nat) (s : ByteArray) (k : Int) (ts : List Tok) (w : World) : Prop :=
  ∃ v, w.heap[b]? = some (.cells #[.string s, .int .i64 k, v] 57 (0, 0)) ∧ w.ownsRow B 47 4 v ts.length (toksC ts) ∧ B ≤ b

set_option maxRecDepth 100000 in
set_option maxHeartbeats 1000000 in
theorem isOfWord_any (c : Int) (w : World) : Calls Try.prog 50 #[.int .u8 c] w fun e w' => e = .returned (.bool (isPart c)) ∧ w = w' := by
  go_enter Try.func50, Try.ntmps50
  go_wp2
  all_goals
    go_ret
    refine ⟨ret_bool ?_, rfl⟩
    symm
    try simp only [beq_iff_eq, beq_eq_false_iff_ne, ne_eq] at *
    first
      | (rw [isPart_iff]; omega)
      | (refine bool_no (isPart_iff c) ?_; omega)

set_option maxRecDepth 100000 in
set_option maxHeartbeats 1000000 in
theorem lay_any (B b : Nat) (s : ByteArray) (k : Int) (ts : List Tok) (t1 t2 : Int) (t3 : ByteArray) (t4 z : Int) (w : World) (h : Scr B b s k ts w) (hr : (ts.length + 1) * 40 ≤ 140737488355328) :
    Calls Try.prog 29 #[.pointer (some ⟨b, 0, none⟩), .agg #[.int .i64 t1, .int .i64 t2, .string t3, .int .i64 t4], .int .i64 z] w fun e w' =>
      e = .returned (.tuple #[.int .i64 0, .int .i64 0]) ∧ Scr B b s z (ts ++ [(t1, t2, t3.data.toList, k)]) w' ∧ Below B w w' := by
  obtain ⟨v, hb, hown, hBb⟩ := h
  obtain ⟨i0, hi, hz0, hz1, hz2⟩ := info_parts infoTok
  have hlt : b < w.heap.size := (Array.getElem?_eq_some_iff.1 hb).1
  have c1 : w.cell? ⟨b, 1, none⟩ = some (.int .i64 k) := by rw [cell_of_row w b 1 _ _ _ hb]; rfl
  have c2 : w.cell? ⟨b, 2, none⟩ = some v := by rw [cell_of_row w b 2 _ _ _ hb]; rfl
  have f1 : w.frozen? ⟨b, 1, none⟩ = false := frozen_of_row w b 1 _ _ hb
  have f2 : w.frozen? ⟨b, 2, none⟩ = false := frozen_of_row w b 2 _ _ hb
  have hne : some b ≠ v.ownBlock := by
    intro e
    rcases hown.2 with ⟨rfl, _⟩ | ⟨g, cap, cur, rfl, _, hg, _⟩
    · cases e
    · have e2 : b = g := by simpa [Value.ownBlock] using e
      subst e2
      rw [hb] at hg
      simp at hg
  have F : ∀ w1 : World, (((w.alloc (.cells #[.int .i64 t1, .int .i64 t2, .string t3, .int .i64 k] 47)).alloc (.cells #[.int .i64 t1, .int .i64 t2, .string t3, .int .i64 k] 47)).drew).grownBy w1 v.ownBlock → w1.heap[b]? = some (.cells #[.string s, .int .i64 k, v] 57 (0, 0)) := by
    intro w1 hg
    rw [hg.block b (by simp; omega) hne]
    show (((w.alloc _).alloc _).heap)[b]? = _
    rw [heap_alloc_old _ _ (by simp; omega), heap_alloc_old _ _ hlt, hb]
  have HN : (((w.alloc (.cells #[.int .i64 t1, .int .i64 t2, .string t3, .int .i64 k] 47)).alloc (.cells #[.int .i64 t1, .int .i64 t2, .string t3, .int .i64 k] 47)).drew).heap[w.heap.size + 1]? = some (.cells #[.int .i64 t1, .int .i64 t2, .string t3, .int .i64 k] 47 (0, 0)) := by
    have := heap_alloc_new (w.alloc (.cells #[.int .i64 t1, .int .i64 t2, .string t3, .int .i64 k] 47)) (.cells #[.int .i64 t1, .int .i64 t2, .string t3, .int .i64 k] 47)
    rw [show (w.alloc (.cells #[.int .i64 t1, .int .i64 t2, .string t3, .int .i64 k] 47)).heap.size = w.heap.size + 1 by simp] at this
    exact this
  go_enter Try.func29, Try.ntmps29
  go_wp2_with fail
  go_region_law
    (refine step_append_lies _ (by rfl) _ _ _ (by rfl) B 47 i0 _ 4 40 Try.underlying41 hi hz0 hz1 hz2 (by rfl) (by omega) v ts.length (toksC ts) (by rfl) (((hown.alloc _).alloc _).drew) ⟨w.heap.size + 1, 0, none⟩ 1 1 [.int .i64 t1, .int .i64 t2, .string t3, .int .i64 k] (by rfl) (by rfl) (World.news_of_block (cs := #[.int .i64 t1, .int .i64 t2, .string t3, .int .i64 k]) (t := 47) (fr := (0, 0)) HN) (by simp [Value.oneCell']) (by omega) (by unfold maxLen; omega) (by omega) (by simp; omega) (w.heap.size + 2) (by simp) ?_; intro g cap w1 hown1 hg1 hat hlt1; have x0 := F w1 hg1; have x1 : w1.cell? ⟨b, 2, none⟩ = some v := (cell_of_row w1 b 2 _ _ _ x0).trans rfl; have x2 : w1.frozen? ⟨b, 2, none⟩ = false := frozen_of_row w1 b 2 _ _ x0; have x3 : w1.cell? ⟨b, 1, none⟩ = some (.int .i64 k) := (cell_of_row w1 b 1 _ _ _ x0).trans rfl; have x4 : w1.frozen? ⟨b, 1, none⟩ = false := frozen_of_row w1 b 1 _ _ x0)
  all_goals
    go_wp2
    go_ret2
    have x5 := heap_setCell_same w1 b 2 _ _ (.slice (some ⟨g, 0, none⟩) (ts.length + 1) cap) x0
    have x6 := heap_setCell_same _ b 1 _ _ (.int .i64 z) x5
    refine ⟨rfl, ⟨_, x6, ?_, hBb⟩, ?_⟩
    · have h2 := own_other (own_other hown1 x0 (by decide) ⟨b, 2, none⟩ rfl (.slice (some ⟨g, 0, none⟩) (ts.length + 1) cap)) x5 (by decide) ⟨b, 1, none⟩ rfl (.int .i64 z)
      rw [toksC_app, toksC_one, List.length_append]
      exact h2
    · exact ((((((Below.refl B w).alloc (by omega) _).alloc (by simp; omega) _).drew).grown hg1 (by simp; omega) (fun k hk => (hown.lt k hk).1)).setCell hBb _).setCell hBb _
end Go.Proofs.Ytcbiaflbncfliaa.Sc
/- Contracts of package scan's text, number, word; of strings' HasPrefix. -/
namespace Go.Proofs.Ytcbiaflbncfliaa.Sc
open Go.RowKit
open Go.Proofs.Ytcbiaflbncfliaa.Utf

theorem Scr.keep {B b : Nat} {s : ByteArray} {k : Int} {ts : List Tok} {w w' : World} (h : Scr B b s k ts w) (hb : Below w.heap.size w w') : Scr B b s k ts w' := by
  obtain ⟨v, h1, h2, h3⟩ := h
  exact ⟨v, (hb.block b (Array.getElem?_eq_some_iff.1 h1).1).trans h1, own_below h2 hb, h3⟩
theorem Scr.cells {B b : Nat} {s : ByteArray} {k : Int} {ts : List Tok} {w : World} (h : Scr B b s k ts w) :
    b < w.heap.size ∧ w.cell? ⟨b, 0, none⟩ = some (.string s) ∧ w.cell? ⟨b, 1, none⟩ = some (.int .i64 k) ∧ w.frozen? ⟨b, 1, none⟩ = false := by
  obtain ⟨v, h1, _, _⟩ := h
  exact ⟨(Array.getElem?_eq_some_iff.1 h1).1, by rw [cell_of_row w b 0 _ _ _ h1]; rfl, by rw [cell_of_row w b 1 _ _ _ h1]; rfl, frozen_of_row w b 1 _ _ h1⟩

/-- what a step hands back: a token laid, the scanner behind it; or the place of a fault, and why -/
def Steps (B b : Nat) (s : ByteArray) (ts : List Tok) (r : Option Tok × Int × Int) (w : World) (e : Ending) (w' : World) : Prop :=
  Below B w w' ∧ ((r.2.2 = 0 ∧ e = .returned (.tuple #[.int .i64 0, .int .i64 0]) ∧ Scr B b s r.2.1 (ts ++ r.1.toList) w') ∨ (r.2.2 ≠ 0 ∧ e = .returned (.tuple #[.int .i64 r.2.1, .int .i64 r.2.2])))

set_option maxRecDepth 100000 in
set_option maxHeartbeats 400000 in
theorem pre_any (x y : ByteArray) (w : World) :
    Calls Try.prog 64 #[.string x, .string y] w fun e w' => e = .returned (.bool (decide (x.data.toList.take y.size = y.data.toList))) ∧ w = w' := by
  by_cases h : y.size ≤ x.size
  · have hd : decide ((y.size : Int) ≤ (x.size : Int)) = true := decide_eq_true (by omega)
    have hd' : decide (y.size ≤ x.size) = true := decide_eq_true h
    have he : (x.extract 0 y.size).toList = x.data.toList.take y.size := by rw [ByteArray.toList_eq, ByteArray.data_extract]; simp
    go_enter Try.func64, Try.ntmps64
    go_wp2_with fail
    go_ret
    exact ⟨ret_bool (by rw [ByteArray.toList_eq, Bool.eq_iff_iff]; simp), rfl⟩
  · have hd : decide ((y.size : Int) ≤ (x.size : Int)) = false := decide_eq_false (by omega)
    have hd' : decide (y.size ≤ x.size) = false := decide_eq_false h
    have hn : ¬ x.data.toList.take y.size = y.data.toList := by
      intro e
      have := congrArg List.length e
      rw [List.length_take, len_data, len_data] at this
      omega
    go_enter Try.func64, Try.ntmps64
    go_wp2_with fail
    go_ret
    exact ⟨ret_bool (decide_eq_false hn).symm, rfl⟩
set_option maxRecDepth 100000 in
set_option maxHeartbeats 1000000 in
theorem prefix_any (x y : ByteArray) (w : World) :
    Calls Try.prog 49 #[.string x, .string y] w fun e w' => e = .returned (.bool (decide (x.data.toList.take y.size = y.data.toList))) ∧ w = w' := by
  go_enter Try.func49, Try.ntmps49
  go_wp2_with fail
  refine (pre_any x y _).mono ?_
  rintro e w' ⟨rfl, rfl⟩
  go_wp2_with fail
  go_ret
  exact ⟨rfl, rfl⟩

set_option maxRecDepth 100000 in
set_option maxHeartbeats 2000000 in
theorem text_any (B b : Nat) (s : ByteArray) (k : Nat) (ts : List Tok) (w : World) (h : Scr B b s k ts w) (hB : B ≤ w.heap.size) (hr : (ts.length + 1) * 40 ≤ 140737488355328) (hs : s.size ≤ 65536) :
    Calls Try.prog 30 #[.pointer (some ⟨b, 0, none⟩)] w (Steps B b s ts (txT s.data.toList k) w) := by
  obtain ⟨hlt, c0, c1, _⟩ := h.cells
  have HL := fun w1 (hw : Below w.heap.size w w1) t n => lay_any B b s k ts 4 0 (strOf t) 0 n w1 (h.keep hw) hr
  have HS := Lib.hid h; clear h
  rcases hR : Ch.readS s.data.toList k with ⟨t, n, er⟩
  have hr' := Ch.Read_fit s k
  rw [hR] at hr'
  have HR := Lib.hid hr'; clear hr'
  unfold txT
  rw [hR]
  clear hR
  simp only
  by_cases he : er = 0
  · subst he
    rw [if_pos rfl]
    go_enter Try.func30, Try.ntmps30
    go_wp2_with fail
    go_region_held3 (fun w' => w'.cell? ⟨b, 0, none⟩ = some (.string s) ∧ w'.cell? ⟨b, 1, none⟩ = some (.int .i64 k))
      (first | go_keep | exact ⟨(hb1.cell (p := ⟨b, 0, none⟩) hlt).trans c0, (hb1.cell (p := ⟨b, 1, none⟩) hlt).trans c1⟩)
      ((go_at_call 47; refine (HR.out _ (by omega)).mono ?_; rintro e w1 ⟨rfl, hb1⟩))
    have hb2 : Below w.heap.size w w1 := ((Below.refl _ w).drew).trans hb1
    go_wp2_with fail
    refine (HL w1 hb2 t n).mono ?_
    rintro e w2 ⟨rfl, hs2, hb3⟩
    go_wp2_with fail
    go_ret2
    exact ⟨(hb2.mono hB).trans hb3, .inl ⟨rfl, rfl, hs2⟩⟩
  · rw [if_neg he]
    have hd : (er != 0) = true := by rw [bne_iff_ne]; exact he
    go_enter Try.func30, Try.ntmps30
    go_wp2_with fail
    go_region_held3 (fun w' => w'.cell? ⟨b, 0, none⟩ = some (.string s) ∧ w'.cell? ⟨b, 1, none⟩ = some (.int .i64 k))
      (first | go_keep | exact ⟨(hb1.cell (p := ⟨b, 0, none⟩) hlt).trans c0, (hb1.cell (p := ⟨b, 1, none⟩) hlt).trans c1⟩)
      ((go_at_call 47; refine (HR.out _ (by omega)).mono ?_; rintro e w1 ⟨rfl, hb1⟩))
    have hb2 : Below w.heap.size w w1 := ((Below.refl _ w).drew).trans hb1
    go_wp2_with fail
    go_ret2
    exact ⟨hb2.mono hB, .inr ⟨he, rfl⟩⟩

set_option maxRecDepth 100000 in
set_option maxHeartbeats 2000000 in
theorem number_any (B b : Nat) (s : ByteArray) (k : Nat) (ts : List Tok) (w : World) (h : Scr B b s k ts w) (hB : B ≤ w.heap.size) (hr : (ts.length + 1) * 40 ≤ 140737488355328) (hs : s.size ≤ 65536) :
    Calls Try.prog 31 #[.pointer (some ⟨b, 0, none⟩)] w (Steps B b s ts (nmT s.data.toList k) w) := by
  obtain ⟨hlt, c0, c1, _⟩ := h.cells
  have HL := fun w1 (hw : Below w.heap.size w w1) t n => lay_any B b s k ts 3 t ByteArray.empty 0 n w1 (h.keep hw) hr
  have HS := Lib.hid h; clear h
  rcases hR : Nu.rdS s.data.toList k with ⟨t, n, er⟩
  have hr' := Nu.Read_any s k
  rw [hR] at hr'
  have HR := Lib.hid hr'; clear hr'
  unfold nmT
  rw [hR]
  clear hR
  simp only
  by_cases he : er = 0
  · subst he
    rw [if_pos rfl]
    go_enter Try.func31, Try.ntmps31
    go_wp2_with fail
    go_region_held3 (fun w' => w'.cell? ⟨b, 0, none⟩ = some (.string s) ∧ w'.cell? ⟨b, 1, none⟩ = some (.int .i64 k))
      (go_keep)
      ((go_at_call 48; refine (HR.out _ (by omega)).mono ?_; rintro e w1 ⟨rfl, rfl⟩))
    have hb2 : Below w.heap.size w w.drew := (Below.refl _ w).drew
    go_wp2_with fail
    refine (HL _ hb2 t n).mono ?_
    rintro e w2 ⟨rfl, hs2, hb3⟩
    go_wp2_with fail
    go_ret2
    exact ⟨(hb2.mono hB).trans hb3, .inl ⟨rfl, rfl, hs2⟩⟩
  · rw [if_neg he]
    have hd : (er != 0) = true := by rw [bne_iff_ne]; exact he
    go_enter Try.func31, Try.ntmps31
    go_wp2_with fail
    go_region_held3 (fun w' => w'.cell? ⟨b, 0, none⟩ = some (.string s) ∧ w'.cell? ⟨b, 1, none⟩ = some (.int .i64 k))
      (go_keep)
      ((go_at_call 48; refine (HR.out _ (by omega)).mono ?_; rintro e w1 ⟨rfl, rfl⟩))
    have hb2 : Below w.heap.size w w.drew := (Below.refl _ w).drew
    go_wp2_with fail
    go_ret2
    exact ⟨hb2.mono hB, .inr ⟨he, rfl⟩⟩
end Go.Proofs.Ytcbiaflbncfliaa.Sc
/- Contract of package scan's word. -/
namespace Go.Proofs.Ytcbiaflbncfliaa.Sc
open Go.RowKit
open Go.Proofs.Ytcbiaflbncfliaa.Utf

set_option maxRecDepth 100000 in
set_option maxHeartbeats 2000000 in
theorem word_any (B b : Nat) (s y : ByteArray) (k : Nat) (ts : List Tok) (w : World) (h : Scr B b s k ts w) (hB : B ≤ w.heap.size) (hr : (ts.length + 1) * 40 ≤ 140737488355328) (hs : s.size ≤ 65536) (hk : k < s.size) (hy : y.size ≤ 10) :
    Calls Try.prog 32 #[.pointer (some ⟨b, 0, none⟩), .string y] w (Steps B b s ts (wrd s.data.toList k y.data.toList) w) := by
  obtain ⟨hlt, c0, c1, _⟩ := h.cells
  have HL := fun w1 (hw : Below w.heap.size w w1) n => lay_any B b s k ts 2 0 y 0 n w1 (h.keep hw) hr
  have HS := Lib.hid h; clear h
  have hP := fun w => prefix_any (s.extract k s.size) y w
  have e1 : (s.extract k s.size).data.toList = s.data.toList.drop k := by
    rw [ByteArray.data_extract, Array.toList_extract]
    show List.extract _ _ _ = _
    rw [List.extract_eq_take_drop, List.take_of_length_le (by rw [List.length_drop, len_data]; omega)]
  rw [e1] at hP
  clear e1
  have hsl : (k : Int) ≤ (s.size : Int) := by omega
  have yes : hasW s.data.toList k y.data.toList → wrd s.data.toList k y.data.toList = (some (2, 0, y.data.toList, (k : Int)), (k : Int) + (y.size : Int), 0) := fun h => by
    unfold wrd; rw [if_pos h, len_data]; rfl
  have no : ¬ hasW s.data.toList k y.data.toList → wrd s.data.toList k y.data.toList = (none, (k : Int), 40) := fun h => by unfold wrd; rw [if_neg h]
  by_cases hp : (s.data.toList.drop k).take y.size = y.data.toList
  · rw [decide_eq_true hp] at hP
    have HP := Lib.hid hP; clear hP
    have hle : k + y.size ≤ s.size := by
      have := congrArg List.length hp
      rw [List.length_take, List.length_drop, len_data, len_data] at this
      omega
    by_cases hlt2 : k + y.size < s.size
    · have g := byt_get s (k + y.size) hlt2
      have f : ((k : Int) + (y.size : Int)).toNat = k + y.size := by omega
      have f0 : (0 : Int) ≤ (k : Int) + (y.size : Int) := by omega
      have f1 : (k : Int) + (y.size : Int) < (s.size : Int) := by omega
      have d1 : decide ((k : Int) + (y.size : Int) < (s.size : Int)) = true := decide_eq_true (by omega)
      by_cases hpt : isPart (byt s.data.toList (k + y.size)) = false
      · rw [yes ⟨hp, hpt⟩]
        clear hp yes no
        rw [g] at hpt
        clear g
        go_enter Try.func32, Try.ntmps32
        go_wp2_with fail
        go_quiet (first | (go_at_call 49; refine Calls.quiet_of_same ((HP.out _).mono fun e w' h => ⟨h.1, h.2.symm⟩)) | (go_at_call 50; refine Calls.quiet_of_same ((isOfWord_any _ _).mono fun e w' h => ⟨h.1, h.2.symm⟩)))
        have hb2 : Below w.heap.size w (w.drewN nq) := below_drewN (Below.refl _ w) nq
        go_wp2_with fail
        refine (HL _ hb2 _).mono ?_
        rintro e w2 ⟨rfl, hs2, hb3⟩
        go_wp2_with fail
        go_ret2
        exact ⟨(hb2.mono hB).trans hb3, .inl ⟨rfl, rfl, hs2⟩⟩
      · rw [no (fun h => hpt h.2)]
        have hpt := (Bool.not_eq_false _).mp hpt
        clear hp yes no
        rw [g] at hpt
        clear g
        go_enter Try.func32, Try.ntmps32
        go_wp2_with fail
        go_quiet (first | (go_at_call 49; refine Calls.quiet_of_same ((HP.out _).mono fun e w' h => ⟨h.1, h.2.symm⟩)) | (go_at_call 50; refine Calls.quiet_of_same ((isOfWord_any _ _).mono fun e w' h => ⟨h.1, h.2.symm⟩)))
        have hb2 : Below w.heap.size w (w.drewN nq) := below_drewN (Below.refl _ w) nq
        go_wp2_with fail
        go_ret2
        exact ⟨hb2.mono hB, .inr ⟨by show (40 : Int) ≠ 0; decide, rfl⟩⟩
    · have d1 : decide ((k : Int) + (y.size : Int) < (s.size : Int)) = false := decide_eq_false (by omega)
      · rw [yes ⟨hp, by rw [Nu.byt_out (by rw [len_data, len_data]; omega)]; rfl⟩]
        clear hp yes no
        go_enter Try.func32, Try.ntmps32
        go_wp2_with fail
        go_quiet (first | (go_at_call 49; refine Calls.quiet_of_same ((HP.out _).mono fun e w' h => ⟨h.1, h.2.symm⟩)) | (go_at_call 50; refine Calls.quiet_of_same ((isOfWord_any _ _).mono fun e w' h => ⟨h.1, h.2.symm⟩)))
        have hb2 : Below w.heap.size w (w.drewN nq) := below_drewN (Below.refl _ w) nq
        go_wp2_with fail
        refine (HL _ hb2 _).mono ?_
        rintro e w2 ⟨rfl, hs2, hb3⟩
        go_wp2_with fail
        go_ret2
        exact ⟨(hb2.mono hB).trans hb3, .inl ⟨rfl, rfl, hs2⟩⟩
  · rw [decide_eq_false hp] at hP
    have HP := Lib.hid hP; clear hP
    · rw [no (fun h => hp h.1)]
      · clear hp yes no
        go_enter Try.func32, Try.ntmps32
        go_wp2_with fail
        go_quiet (first | (go_at_call 49; refine Calls.quiet_of_same ((HP.out _).mono fun e w' h => ⟨h.1, h.2.symm⟩)) | (go_at_call 50; refine Calls.quiet_of_same ((isOfWord_any _ _).mono fun e w' h => ⟨h.1, h.2.symm⟩)))
        have hb2 : Below w.heap.size w (w.drewN nq) := below_drewN (Below.refl _ w) nq
        go_wp2_with fail
        go_ret2
        exact ⟨hb2.mono hB, .inr ⟨by show (40 : Int) ≠ 0; decide, rfl⟩⟩
end Go.Proofs.Ytcbiaflbncfliaa.Sc
