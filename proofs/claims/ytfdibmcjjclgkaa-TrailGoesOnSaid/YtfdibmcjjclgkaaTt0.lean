/- Merged: Base TlPl RoA RoB. -/
import Derived.Test.YtfdibmcjjclgkaaProg
import Derived.Below
import Derived.Laws.OwnMore
import Derived.Laws.BytesArg
import Derived.Deep.Draws
import Derived.Lib.UnsafeStr
import Derived.Lib.Hide
import Derived.WalkKit
import Derived.Laws.AppendOwn
import Derived.Laws.BytesString
import Derived.Lib.Strings
import Derived.OpenShut
namespace Go.Proofs.Ytfdibmcjjclgkaa
open Go.RowKit

section
variable {w w' : World} {B B' : Nat} {v : Value} {xs : List Value}

end

end Go.Proofs.Ytfdibmcjjclgkaa
namespace Go.Proofs.Ytfdibmcjjclgkaa
open Go.RowKit
theorem cell_lt {w : World} {a : Addr} {v : Value} (h : w.cell? a = some v) : a.block < w.heap.size := by
  rcases Nat.lt_or_ge a.block w.heap.size with hlt | hge
  · exact hlt
  · simp [World.cell?, Array.getElem?_eq_none hge] at h
end Go.Proofs.Ytfdibmcjjclgkaa
namespace Go.Proofs.Ytfdibmcjjclgkaa.Utf
open Go.RowKit

def strOf (l : List UInt8) : ByteArray := ⟨l.toArray⟩
theorem strOf_data (l : List UInt8) : (strOf l).data.toList = l := rfl
theorem strOf_list (l : List UInt8) : (strOf l).toList = l := by rw [ByteArray.toList_eq]; rfl
theorem strOf_size (l : List UInt8) : (strOf l).size = l.length := rfl

theorem cells_new (w : World) (E : TypeId) (cs : Array Value) : ∀ j u, cs.toList[j]? = some u → (w.alloc (.cells cs E)).cell? ((⟨w.heap.size, 0, none⟩ : Addr).add j) = some u := by
  intro j u hu
  have hp : (⟨w.heap.size, 0, none⟩ : Addr).add j = ⟨w.heap.size, j, none⟩ := by unfold Addr.add; split <;> simp_all
  rw [hp]
  unfold World.cell?
  rw [heap_alloc_new]
  simpa using hu

end Go.Proofs.Ytfdibmcjjclgkaa.Utf
namespace Go.Proofs.Ytfdibmcjjclgkaa.Tl
open Go.Proofs Go.RowKit
open Go.Proofs.Ytfdibmcjjclgkaa.Utf

abbrev En := Int × List UInt8 × Int
abbrev Pa := List UInt8 × Bool × Bool × Int
def enR (e : En) : List Value := [.int .i64 e.1, .string (strOf e.2.1), .int .i64 e.2.2]
def paR (p : Pa) : List Value := [.string (strOf p.1), .bool p.2.1, .bool p.2.2.1, .int .i64 p.2.2.2]
def enC (l : List En) : List (List Value) := l.map enR
def paC (l : List Pa) : List (List Value) := l.map paR

def wasS (l : List En) (id : List UInt8) : Int := l.foldl (fun w e => if e.2.1 = id then e.2.2 else w) 0
theorem was_snoc (l : List En) (e : En) (id : List UInt8) : wasS (l ++ [e]) id = if e.2.1 = id then e.2.2 else wasS l id := by
  unfold wasS
  rw [List.foldl_append]; rfl
def okAt (f : Int) (pre : List En) (e : En) : Bool := decide (e.1 = f + 1 + (pre.length : Int) ∧ 1 ≤ e.2.2 ∧ e.2.2 ≤ 3 ∧ (e.2.2 = 1 → wasS pre e.2.1 = 0) ∧ (e.2.2 ≠ 1 → wasS pre e.2.1 ≠ 3))
def okFrom (f : Int) : List En → List En → Bool
  | _, [] => true
  | pre, e :: r => okAt f pre e && okFrom f (pre ++ [e]) r
def rightS (l : List En) (f s : Int) : Bool := decide (0 ≤ f ∧ 0 ≤ s ∧ s ≤ 9007199254740991 ∧ f ≤ s ∧ s - f = (l.length : Int)) && okFrom f [] l
theorem ok_step {f : Int} {l : List En} {k : Nat} (hk : k < l.length) : okFrom f (l.take k) (l.drop k) = (okAt f (l.take k) l[k] && okFrom f (l.take (k + 1)) (l.drop (k + 1))) := by
  rw [List.drop_eq_getElem_cons hk, okFrom, List.take_succ_eq_append_getElem hk]
theorem ok_app (f : Int) : ∀ (a b pre : List En), okFrom f pre (a ++ b) = (okFrom f pre a && okFrom f (pre ++ a) b)
  | [], b, pre => by rw [okFrom, List.nil_append, List.append_nil, Bool.true_and]
  | e :: r, b, pre => by
    rw [List.cons_append, okFrom, okFrom, ok_app f r b (pre ++ [e]), Bool.and_assoc, List.append_assoc]; rfl
theorem ok_each {f : Int} {l : List En} (h : okFrom f [] l = true) {k : Nat} (hk : k < l.length) : okAt f (l.take k) l[k] = true := by
  have e : l = l.take k ++ l[k] :: l.drop (k + 1) := by rw [← List.drop_eq_getElem_cons hk, List.take_append_drop]
  rw [e, ok_app, Bool.and_eq_true, okFrom, Bool.and_eq_true] at h
  have := h.2.1
  rwa [List.nil_append] at this
theorem ok_is {f : Int} {pre : List En} {e : En} : okAt f pre e = true ↔ (e.1 = f + 1 + (pre.length : Int) ∧ 1 ≤ e.2.2 ∧ e.2.2 ≤ 3 ∧ (e.2.2 = 1 → wasS pre e.2.1 = 0) ∧ (e.2.2 ≠ 1 → wasS pre e.2.1 ≠ 3)) := by
  unfold okAt
  rw [decide_eq_true_iff]
theorem ok_seq {f : Int} {l : List En} (h : okFrom f [] l = true) {k : Nat} (hk : k < l.length) : l[k].1 = f + 1 + (k : Int) := by
  have := (ok_is.1 (ok_each h hk)).1
  rwa [List.length_take, Nat.min_eq_left (by omega)] at this
theorem was_none {l : List En} {id : List UInt8} (h : ∀ e ∈ l, e.2.1 ≠ id) : wasS l id = 0 := by
  unfold wasS
  have key : ∀ (l : List En) (z : Int), (∀ e ∈ l, e.2.1 ≠ id) → l.foldl (fun w e => if e.2.1 = id then e.2.2 else w) z = z := by
    intro l
    induction l with
    | nil => intro z _; rfl
    | cons a r ih =>
      intro z h
      rw [List.foldl_cons, if_neg (h a List.mem_cons_self)]
      exact ih z fun e he => h e (List.mem_cons_of_mem _ he)
  exact key l 0 h
theorem was_app (a b : List En) (id : List UInt8) : wasS (a ++ b) id = if b.any (fun e => decide (e.2.1 = id)) = true then wasS b id else wasS a id := by
  have key : ∀ (b : List En) (z : Int), b.foldl (fun w e => if e.2.1 = id then e.2.2 else w) z = if b.any (fun e => decide (e.2.1 = id)) = true then wasS b id else z := by
    intro b
    induction b with
    | nil => intro z; rfl
    | cons x r ih =>
      intro z
      have h0 := ih 0
      have hx := ih (if x.2.1 = id then x.2.2 else z)
      have hx0 := ih (if x.2.1 = id then x.2.2 else 0)
      unfold wasS at *
      rw [List.foldl_cons, hx, List.any_cons, List.foldl_cons, hx0]
      by_cases he : x.2.1 = id
      · simp [he]
      · rw [decide_eq_false he, Bool.false_or, if_neg he, if_neg he]
        split <;> rfl
  unfold wasS
  rw [List.foldl_append, key b]
  rfl
def cutS (l : List En) (keep : Int) : Nat := l.length + 1 - keep.toNat
def outS (l : List En) (keep : Int) (e : En) : List En := (l ++ [e]).drop (cutS l keep)
def flrS (l : List En) (f keep : Int) (e : En) : Int := if cutS l keep = 0 then f else ((l ++ [e]).getD (cutS l keep - 1) e).1

def hit (s : Int) (id : List UInt8) (x : En) : Bool := decide (x.2.1 = id ∧ s < x.1)
def pastT (s : Int) (p : List En) (e : En) : Pa := (e.2.1, decide (((p.find? (hit s e.2.1)).getD e).2.2 ≠ 1), decide (e.2.2 ≠ 3), e.1)
def canS (s : Int) : List En → List En → List Pa
  | _, [] => []
  | pre, e :: r => (if s < e.1 ∧ r.any (hit s e.2.1) = false then [pastT s (pre ++ [e]) e] else []) ++ canS s (pre ++ [e]) r
def placeS (l : List Pa) (p : Pa) : Nat := l.length - (l.reverse.takeWhile fun x => decide (p.2.2.2 < x.2.2.2)).length
def insP (l : List Pa) (p : Pa) : List Pa := l.take (placeS l p) ++ p :: l.drop (placeS l p)
def sinS (l : List En) (s : Int) : List Pa := (canS s [] l).foldl insP []
theorem can_step {s : Int} {l : List En} {k : Nat} (hk : k < l.length) : canS s (l.take k) (l.drop k) = (if s < l[k].1 ∧ (l.drop (k + 1)).any (hit s l[k].2.1) = false then [pastT s (l.take (k + 1)) l[k]] else []) ++ canS s (l.take (k + 1)) (l.drop (k + 1)) := by
  rw [List.drop_eq_getElem_cons hk, canS, ← List.take_succ_eq_append_getElem hk]
theorem can_len (s : Int) : ∀ (r pre : List En), (canS s pre r).length ≤ r.length
  | [], _ => by simp [canS]
  | e :: r, pre => by
    have := can_len s r (pre ++ [e])
    rw [canS, List.length_append, List.length_cons]
    split
    · simp only [List.length_singleton]; omega
    · simp only [List.length_nil]; omega
theorem ins_len (l : List Pa) (p : Pa) : (insP l p).length = l.length + 1 := by
  unfold insP
  rw [List.length_append, List.length_cons, ← Nat.add_assoc, ← List.length_append, List.take_append_drop]
theorem fold_len : ∀ (c l : List Pa), (c.foldl insP l).length = l.length + c.length
  | [], l => rfl
  | p :: r, l => by
    rw [List.foldl_cons, fold_len r (insP l p), ins_len, List.length_cons]; omega
theorem sin_len (l : List En) (s : Int) : (sinS l s).length ≤ l.length := by
  unfold sinS
  rw [fold_len]
  have := can_len s l []
  simp only [List.length_nil]; omega
theorem place_is {l : List Pa} {p : Pa} {a : Nat} (ha : a ≤ l.length) (h1 : ∀ x ∈ l.drop a, p.2.2.2 < x.2.2.2) (h2 : a = 0 ∨ ∃ h : a - 1 < l.length, l[a - 1].2.2.2 ≤ p.2.2.2) : placeS l p = a := by
  unfold placeS
  have e : l.reverse = (l.drop a).reverse ++ (l.take a).reverse := by rw [← List.reverse_append, List.take_append_drop]
  have h3 : ((l.take a).reverse.takeWhile fun x => decide (p.2.2.2 < x.2.2.2)) = [] := by
    rcases h2 with rfl | ⟨h, hx⟩
    · simp
    · rcases Nat.eq_zero_or_pos a with rfl | h0
      · simp
      · have et : l.take a = l.take (a - 1) ++ [l[a - 1]] := by rw [← List.take_succ_eq_append_getElem h, show a - 1 + 1 = a by omega]
        rw [et, List.reverse_append, List.reverse_singleton, List.singleton_append, List.takeWhile_cons, if_neg]
        rw [decide_eq_true_iff]; omega
  have h4 : (l.reverse.takeWhile fun x => decide (p.2.2.2 < x.2.2.2)) = (l.drop a).reverse := by
    rw [e, List.takeWhile_append_of_pos (fun x hx => decide_eq_true (h1 x (List.mem_reverse.1 hx))), h3, List.append_nil]
  rw [h4, List.length_reverse, List.length_drop]
  omega
theorem ins_end {l : List Pa} {p : Pa} (h : ∀ x ∈ l, x.2.2.2 ≤ p.2.2.2) : insP l p = l ++ [p] := by
  have : placeS l p = l.length := place_is (Nat.le_refl _) (fun x hx => by rw [List.drop_length] at hx; cases hx) (by
    rcases Nat.eq_zero_or_pos l.length with h0 | h0
    · exact .inl h0
    · exact .inr ⟨by omega, h _ (List.getElem_mem _)⟩)
  unfold insP
  rw [this, List.take_length, List.drop_length]
end Go.Proofs.Ytfdibmcjjclgkaa.Tl
namespace Go.Proofs.Ytfdibmcjjclgkaa.Ro
open Go.Proofs Go.RowKit
open Go.Proofs.Ytfdibmcjjclgkaa.Utf

def RdR (w : World) (B s : Nat) (v : Value) (rows : List (List Value)) : Prop :=
  (∀ r ∈ rows, r.length = s) ∧ ∃ (A : Option Addr) (c : Nat), v = .slice A rows.length c ∧ (0 < rows.length → ∃ g o, A = some ⟨g, o, none⟩ ∧ g < B ∧ ∀ k (h : k < rows.length) j u, rows[k][j]? = some u → w.cell? ⟨g, o + k * s + j, none⟩ = some u)
section
variable {w w' : World} {B B' s : Nat} {v : Value} {rows : List (List Value)}
theorem RdR.keep (h : RdR w B s v rows) (hk : ∀ p : Addr, p.block < B → w'.cell? p = w.cell? p) : RdR w' B s v rows := by
  obtain ⟨hs, A, c, rfl, hA⟩ := h
  refine ⟨hs, A, c, rfl, fun h0 => ?_⟩
  obtain ⟨g, o, e, h1, h2⟩ := hA h0
  exact ⟨g, o, e, h1, fun k hk' j u hu => (hk ⟨g, o + k * s + j, none⟩ h1).trans (h2 k hk' j u hu)⟩
theorem RdR.below (h : RdR w B s v rows) (hb : Below B w w') : RdR w' B s v rows := h.keep fun _ hp => hb.cell hp
theorem RdR.more (h : RdR w B s v rows) (hB : B ≤ B') : RdR w B' s v rows := by
  obtain ⟨hs, A, c, rfl, hA⟩ := h
  refine ⟨hs, A, c, rfl, fun h0 => ?_⟩
  obtain ⟨g, o, e, h1, h2⟩ := hA h0
  exact ⟨g, o, e, by omega, h2⟩
theorem RdR.nil_ (w : World) (B s c : Nat) : RdR w B s (.slice none 0 c) [] := ⟨(fun _ h => by cases h), none, c, rfl, fun h => absurd h (by simp)⟩
theorem RdR.form (h : RdR w B s v rows) : ∃ A c, v = .slice A rows.length c := by
  obtain ⟨-, A, c, e, -⟩ := h
  exact ⟨A, c, e⟩
theorem RdR.at_ (h : RdR w B s v rows) {k : Nat} (hk : k < rows.length) : ∃ g o c, v = .slice (some ⟨g, o, none⟩) rows.length c ∧ g < B ∧ ∀ j u, rows[k][j]? = some u → w.cell? ⟨g, o + k * s + j, none⟩ = some u := by
  obtain ⟨-, A, c, rfl, hA⟩ := h
  obtain ⟨g, o, rfl, h1, h2⟩ := hA (by omega)
  exact ⟨g, o, c, rfl, h1, fun j u hu => h2 k hk j u hu⟩
end
theorem flat_len {s : Nat} : ∀ rows : List (List Value), (∀ r ∈ rows, r.length = s) → rows.flatten.length = rows.length * s
  | [], _ => by simp
  | a :: r, h => by
    rw [List.flatten_cons, List.length_append, flat_len r fun x hx => h x (List.mem_cons_of_mem _ hx), h a List.mem_cons_self, List.length_cons, Nat.succ_mul]
    omega
theorem flat_at {s : Nat} : ∀ (rows : List (List Value)), (∀ r ∈ rows, r.length = s) → ∀ (k : Nat) (h : k < rows.length) (j : Nat), j < s → rows.flatten[k * s + j]? = rows[k][j]?
  | [], _, k, h, _, _ => by simp at h
  | a :: r, hs, 0, _, j, hj => by
    rw [List.flatten_cons, List.getElem?_append_left (by rw [hs a List.mem_cons_self]; omega)]
    simp
  | a :: r, hs, k + 1, h, j, hj => by
    have ha := hs a List.mem_cons_self
    rw [List.flatten_cons, List.getElem?_append_right (by rw [ha, Nat.succ_mul]; omega), ha, show (k + 1) * s + j - s = k * s + j by rw [Nat.succ_mul]; omega, flat_at r (fun x hx => hs x (List.mem_cons_of_mem _ hx)) k (by simpa using h) j hj]
    simp
theorem own_form {w : World} {base E s : Nat} {v : Value} {rows : List (List Value)} (h : w.ownsRow base E s v rows.length rows.flatten) (h0 : 0 < rows.length) :
    ∃ g cap cur, v = .slice (some ⟨g, 0, none⟩) rows.length cap ∧ base ≤ g ∧ g < w.heap.size ∧ w.heap[g]? = some (.cells cur E (0, 0)) ∧ cur.toList.take (rows.length * s) = rows.flatten := by
  rcases h.2 with ⟨_, e⟩ | ⟨g, cap, cur, rfl, hb, hg, hc1, hc2, hc3, hx⟩
  · omega
  · exact ⟨g, cap, cur, rfl, hb, (Array.getElem?_eq_some_iff.1 hg).1, hg, hx⟩
theorem RdR.of_own {w : World} {base E s : Nat} {v : Value} {rows : List (List Value)} (h : w.ownsRow base E s v rows.length rows.flatten) (hs : ∀ r ∈ rows, r.length = s) : RdR w w.heap.size s v rows := by
  by_cases h0 : 0 < rows.length
  · obtain ⟨g, cap, cur, rfl, hb, hlt, hg, hx⟩ := own_form h h0
    refine ⟨hs, _, _, rfl, fun _ => ⟨g, 0, rfl, hlt, fun k hk j u hu => ?_⟩⟩
    have hj : j < s := by
      have := (List.getElem?_eq_some_iff.1 hu).1
      rwa [hs _ (List.getElem_mem hk)] at this
    have hks : k * s + j < rows.length * s := by
      have := Nat.mul_le_mul_right s (show k + 1 ≤ rows.length by omega)
      rw [Nat.succ_mul] at this
      omega
    rw [cell_of_row w g _ cur E (0, 0) hg, Nat.zero_add]
    have e := flat_at rows hs k hk j hj
    rw [← hx, List.getElem?_take, if_pos hks, hu] at e
    simpa using e
  · have hr : rows = [] := List.eq_nil_of_length_eq_zero (by omega)
    subst hr
    rcases h.2 with ⟨rfl, _⟩ | ⟨g, cap, cur, rfl, _⟩
    · exact RdR.nil_ _ _ _ _
    · exact ⟨hs, _, _, rfl, fun h => absurd h (by simp)⟩
end Go.Proofs.Ytfdibmcjjclgkaa.Ro
namespace Go.Proofs.Ytfdibmcjjclgkaa.Ro
open Go.Proofs Go.RowKit
open Go.Proofs.Ytfdibmcjjclgkaa.Utf

theorem own_cell {w : World} {base E s g n cap : Nat} {xs : List Value} (h : w.ownsRow base E s (.slice (some ⟨g, 0, none⟩) n cap) n xs) {j : Nat} {u : Value} (hj : xs[j]? = some u) : w.cell? ⟨g, j, none⟩ = some u ∧ w.frozen? ⟨g, j, none⟩ = false := by
  rcases h.2 with ⟨e, _⟩ | ⟨g', cap', cur, e, hb, hg, hc1, hc2, hc3, hx⟩
  · cases e
  · injection e with e1
    injection e1 with e1
    injection e1 with e1
    subst e1
    refine ⟨?_, by simp [World.frozen?, hg]⟩
    rw [cell_of_row w g j cur E (0, 0) hg]
    rw [← hx, List.getElem?_take] at hj
    split at hj
    · simpa using hj
    · cases hj
end Go.Proofs.Ytfdibmcjjclgkaa.Ro
