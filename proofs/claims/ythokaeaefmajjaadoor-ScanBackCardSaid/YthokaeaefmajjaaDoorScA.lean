import Derived.Test.YthokaeaefmajjaaDoorScPl
import Derived.Test.YthokaeaefmajjaaDoorChW0
import Derived.Test.YthokaeaefmajjaaDoorNuB
import Derived.Deep.RegionHeld3
import Derived.Deep.AppendLies
import Derived.Deep.RegionLaw
/- Contracts of package scan's small calls: isOfWord, HasPrefix, lay. -/
namespace Go.Proofs.YthokaeaefmajjaaDoor.Sc
open Go.RowKit
open Go.Proofs.YthokaeaefmajjaaDoor.Utf

theorem infoTok : (Tryd.prog.info? 34).map (fun i => (i.zero, i.size, i.bytes)) = some (some (.agg #[.int .i64 0, .int .i64 0, .string ByteArray.empty, .int .i64 0]), 4, 40) := by kernel_rfl

/-- what is owned stays so while a cell of a block of another type is written -/
theorem own_other {w : World} {base e size n : Nat} {v : Value} {xs : List Value} {b t : Nat} {cs : Array Value} {fr : Nat × Nat} (h : w.ownsRow base e size v n xs) (hb : w.heap[b]? = some (.cells cs t fr)) (ht : t ≠ e) (p : Addr) (hp : p.block = b) (u : Value) :
    (w.setCell p u).ownsRow base e size v n xs := by
  obtain ⟨h1, h2⟩ := h
  refine ⟨h1, ?_⟩
  rcases h2 with h2 | ⟨g, cap, cur, hv, hg, hh, r⟩
  · exact .inl h2
  · refine .inr ⟨g, cap, cur, hv, hg, ?_, r⟩
    rw [heap_setCell_other w p g u ?_, hh]
    rintro rfl
    rw [hp, hb] at hh
    simp at hh
    exact ht hh.2.1
/-- a token's cells -/
def tokC (t : Tok) : List Value := [.int .i64 t.1, .int .i64 t.2.1, .string (strOf t.2.2.1), .int .i64 t.2.2.2]
def toksC (ts : List Tok) : List Value := (ts.map tokC).flatten
theorem toksC_app (a b : List Tok) : toksC (a ++ b) = toksC a ++ toksC b := by simp [toksC]
theorem toksC_one (t : Tok) : toksC [t] = tokC t := by simp [toksC]
theorem toksC_len (ts : List Tok) : (toksC ts).length = ts.length * 4 := by
  induction ts with
  | nil => rfl
  | cons a r ih => rw [show a :: r = [a] ++ r from rfl, toksC_app, List.length_append, ih, toksC_one, tokC]; simp; omega

/-- the scanner, in its block b: its text, its place, its tokens in memory from B on -/
def Scr (B b : Nat) (s : ByteArray) (k : Int) (ts : List Tok) (w : World) : Prop :=
  ∃ v, w.heap[b]? = some (.cells #[.string s, .int .i64 k, v] 37 (0, 0)) ∧ w.ownsRow B 34 4 v ts.length (toksC ts) ∧ B ≤ b

theorem isOfWord_any (c : Int) (w : World) : Calls Tryd.prog 31 #[.int .u8 c] w fun e w' => e = .returned (.bool (isPart c)) ∧ w = w' := by
  go_enter Tryd.func31, Tryd.ntmps31
  go_wp2
  all_goals
    go_ret
    refine ⟨ret_bool ?_, rfl⟩
    symm
    try simp only [beq_iff_eq, beq_eq_false_iff_ne, ne_eq] at *
    first
      | (rw [isPart_iff]; omega)
      | (refine bool_no (isPart_iff c) ?_; omega)

set_option maxHeartbeats 1000000 in
theorem lay_any (B b : Nat) (s : ByteArray) (k : Int) (ts : List Tok) (t1 t2 : Int) (t3 : ByteArray) (t4 z : Int) (w : World) (h : Scr B b s k ts w) (hr : (ts.length + 1) * 40 ≤ 140737488355328) :
    Calls Tryd.prog 17 #[.pointer (some ⟨b, 0, none⟩), .agg #[.int .i64 t1, .int .i64 t2, .string t3, .int .i64 t4], .int .i64 z] w fun e w' =>
      e = .returned (.tuple #[.int .i64 0, .int .i64 0]) ∧ Scr B b s z (ts ++ [(t1, t2, t3.data.toList, k)]) w' ∧ Below B w w' := by
  obtain ⟨v, hb, hown, hBb⟩ := h
  obtain ⟨i0, hi, hz0, hz1, hz2⟩ := info_parts infoTok
  have hlt : b < w.heap.size := (Array.getElem?_eq_some_iff.1 hb).1
  have c1 : w.cell? ⟨b, 1, none⟩ = some (.int .i64 k) := by rw [cell_of_row w b 1 _ _ _ hb]; rfl
  have c2 : w.cell? ⟨b, 2, none⟩ = some v := by rw [cell_of_row w b 2 _ _ _ hb]; rfl
  have f1 : w.frozen? ⟨b, 1, none⟩ = false := frozen_of_row w b 1 _ _ hb
  have f2 : w.frozen? ⟨b, 2, none⟩ = false := frozen_of_row w b 2 _ _ hb
  have hne : some b ≠ v.ownBlock := by
    intro e
    rcases hown.2 with ⟨rfl, _⟩ | ⟨g, cap, cur, rfl, _, hg, _⟩
    · cases e
    · have e2 : b = g := by simpa [Value.ownBlock] using e
      subst e2
      rw [hb] at hg
      simp at hg
  have F : ∀ w1 : World, (((w.alloc (.cells #[.int .i64 t1, .int .i64 t2, .string t3, .int .i64 k] 34)).alloc (.cells #[.int .i64 t1, .int .i64 t2, .string t3, .int .i64 k] 34)).drew).grownBy w1 v.ownBlock → w1.heap[b]? = some (.cells #[.string s, .int .i64 k, v] 37 (0, 0)) := by
    intro w1 hg
    rw [hg.block b (by simp; omega) hne]
    show (((w.alloc _).alloc _).heap)[b]? = _
    rw [heap_alloc_old _ _ (by simp; omega), heap_alloc_old _ _ hlt, hb]
  have HN : (((w.alloc (.cells #[.int .i64 t1, .int .i64 t2, .string t3, .int .i64 k] 34)).alloc (.cells #[.int .i64 t1, .int .i64 t2, .string t3, .int .i64 k] 34)).drew).heap[w.heap.size + 1]? = some (.cells #[.int .i64 t1, .int .i64 t2, .string t3, .int .i64 k] 34 (0, 0)) := by
    have := heap_alloc_new (w.alloc (.cells #[.int .i64 t1, .int .i64 t2, .string t3, .int .i64 k] 34)) (.cells #[.int .i64 t1, .int .i64 t2, .string t3, .int .i64 k] 34)
    rw [show (w.alloc (.cells #[.int .i64 t1, .int .i64 t2, .string t3, .int .i64 k] 34)).heap.size = w.heap.size + 1 by simp] at this
    exact this
  go_enter Tryd.func17, Tryd.ntmps17
  go_wp2_with fail
  go_region_law
    (refine step_append_lies _ (by rfl) _ _ _ (by rfl) B 34 i0 _ 4 40 Tryd.underlying22 hi hz0 hz1 hz2 (by rfl) (by omega) v ts.length (toksC ts) (by rfl) (((hown.alloc _).alloc _).drew) ⟨w.heap.size + 1, 0, none⟩ 1 1 [.int .i64 t1, .int .i64 t2, .string t3, .int .i64 k] (by rfl) (by rfl) (World.news_of_block (cs := #[.int .i64 t1, .int .i64 t2, .string t3, .int .i64 k]) (t := 34) (fr := (0, 0)) HN) (by simp [Value.oneCell']) (by omega) (by unfold maxLen; omega) (by omega) (by simp; omega) (w.heap.size + 2) (by simp) ?_; intro g cap w1 hown1 hg1 hat hlt1; have x0 := F w1 hg1; have x1 : w1.cell? ⟨b, 2, none⟩ = some v := (cell_of_row w1 b 2 _ _ _ x0).trans rfl; have x2 : w1.frozen? ⟨b, 2, none⟩ = false := frozen_of_row w1 b 2 _ _ x0; have x3 : w1.cell? ⟨b, 1, none⟩ = some (.int .i64 k) := (cell_of_row w1 b 1 _ _ _ x0).trans rfl; have x4 : w1.frozen? ⟨b, 1, none⟩ = false := frozen_of_row w1 b 1 _ _ x0)
  all_goals
    go_wp2
    go_ret2
    have x5 := heap_setCell_same w1 b 2 _ _ (.slice (some ⟨g, 0, none⟩) (ts.length + 1) cap) x0
    have x6 := heap_setCell_same _ b 1 _ _ (.int .i64 z) x5
    refine ⟨rfl, ⟨_, x6, ?_, hBb⟩, ?_⟩
    · have h2 := own_other (own_other hown1 x0 (by decide) ⟨b, 2, none⟩ rfl (.slice (some ⟨g, 0, none⟩) (ts.length + 1) cap)) x5 (by decide) ⟨b, 1, none⟩ rfl (.int .i64 z)
      rw [toksC_app, toksC_one, List.length_append]
      exact h2
    · exact ((((((Below.refl B w).alloc (by omega) _).alloc (by simp; omega) _).drew).grown hg1 (by simp; omega) (fun k hk => (hown.lt k hk).1)).setCell hBb _).setCell hBb _
end Go.Proofs.YthokaeaefmajjaaDoor.Sc
