import Derived.Test.YtcbiaflbncfliaaReD
import Derived.Test.YtcbiaflbncfliaaRePl5
import Derived.Deep.AppendLies
import Derived.Deep.RegionLaw
/- Values in memory one behind the other, while a list or a map is made. No run of the program in this text. -/
namespace Go.Proofs.Ytcbiaflbncfliaa.Re
open Go.RowKit
open Go.Proofs.Ytcbiaflbncfliaa.Utf
open Go.Proofs.Ytcbiaflbncfliaa.Sc

/-- five cells that read as a value, whose blocks lie from B on, and are none of a row's -/
def It (w : World) (B : Nat) (g : Option Nat) (v : V) (c5 : List Value) : Prop :=
  c5.length = 5 ∧ (∀ u ∈ c5, u.oneCell' = true) ∧ ∃ lo hi, B ≤ lo ∧ hi ≤ w.heap.size ∧ (∀ k, g = some k → k < lo ∨ hi ≤ k) ∧ RdV w lo hi v c5
def Its (w : World) (B : Nat) (g : Option Nat) : List V → List Value → Prop
  | [], cs => cs = []
  | v :: r, cs => ∃ c5 rest, cs = c5 ++ rest ∧ It w B g v c5 ∧ Its w B g r rest
def ItsM (w : World) (B : Nat) (g : Option Nat) : List (List UInt8) → List V → List Value → Prop
  | ns, [], cs => ns = [] ∧ cs = []
  | ns, v :: r, cs => ∃ nm ns' c5 rest, ns = nm :: ns' ∧ cs = .string (strOf nm) :: (c5 ++ rest) ∧ It w B g v c5 ∧ ItsM w B g ns' r rest

section
variable {w w' : World} {B : Nat} {g g' : Option Nat}
theorem It.keep {v : V} {c5 : List Value} (h : It w B g v c5) (hk : ∀ p : Addr, B ≤ p.block → p.block < w.heap.size → g ≠ some p.block → w'.cell? p = w.cell? p) (hs : w.heap.size ≤ w'.heap.size) (hg : ∀ k, g' = some k → g = some k ∨ w.heap.size ≤ k) : It w' B g' v c5 := by
  obtain ⟨h1, h2, lo, hi, h3, h4, h5, h6⟩ := h
  refine ⟨h1, h2, lo, hi, h3, by omega, fun k hk2 => ?_, RdV.keep (fun p hp1 hp2 => hk p (by omega) (by omega) (fun e => by rcases h5 _ e with h | h <;> omega)) (Nat.le_refl _) (Nat.le_refl _) v c5 h6⟩
  rcases hg k hk2 with h | h
  · exact h5 k h
  · exact .inr (by omega)
theorem Its.keep : ∀ {vs : List V} {cs : List Value}, Its w B g vs cs → (∀ p : Addr, B ≤ p.block → p.block < w.heap.size → g ≠ some p.block → w'.cell? p = w.cell? p) → w.heap.size ≤ w'.heap.size → (∀ k, g' = some k → g = some k ∨ w.heap.size ≤ k) → Its w' B g' vs cs := by
  intro vs
  induction vs with
  | nil => intro cs h _ _ _; exact h
  | cons v r ih =>
    intro cs h hk hs hg
    obtain ⟨c5, rest, rfl, h1, h2⟩ := h
    exact ⟨c5, rest, rfl, h1.keep hk hs hg, ih h2 hk hs hg⟩
theorem ItsM.keep : ∀ {vs : List V} {ns : List (List UInt8)} {cs : List Value}, ItsM w B g ns vs cs → (∀ p : Addr, B ≤ p.block → p.block < w.heap.size → g ≠ some p.block → w'.cell? p = w.cell? p) → w.heap.size ≤ w'.heap.size → (∀ k, g' = some k → g = some k ∨ w.heap.size ≤ k) → ItsM w' B g' ns vs cs := by
  intro vs
  induction vs with
  | nil => intro ns cs h _ _ _; exact h
  | cons v r ih =>
    intro ns cs h hk hs hg
    obtain ⟨nm, ns', c5, rest, rfl, rfl, h1, h2⟩ := h
    exact ⟨nm, ns', c5, rest, rfl, rfl, h1.keep hk hs hg, ih h2 hk hs hg⟩
theorem Its.snoc {v : V} {c5 : List Value} (hv : It w B g v c5) : ∀ {vs : List V} {cs : List Value}, Its w B g vs cs → Its w B g (vs ++ [v]) (cs ++ c5) := by
  intro vs
  induction vs with
  | nil => intro cs h; cases h; exact ⟨c5, [], by simp, hv, rfl⟩
  | cons a r ih =>
    intro cs h
    obtain ⟨d5, rest, rfl, h1, h2⟩ := h
    exact ⟨d5, rest ++ c5, by simp, h1, ih h2⟩
theorem ItsM.snoc {nm : List UInt8} {v : V} {c5 : List Value} (hv : It w B g v c5) : ∀ {vs : List V} {ns : List (List UInt8)} {cs : List Value}, ItsM w B g ns vs cs → ItsM w B g (ns ++ [nm]) (vs ++ [v]) (cs ++ (.string (strOf nm) :: c5)) := by
  intro vs
  induction vs with
  | nil => intro ns cs h; obtain ⟨rfl, rfl⟩ := h; exact ⟨nm, [], c5, [], rfl, by simp, hv, rfl, rfl⟩
  | cons a r ih =>
    intro ns cs h
    obtain ⟨n1, ns', d5, rest, rfl, rfl, h1, h2⟩ := h
    exact ⟨n1, ns' ++ [nm], d5, rest ++ (.string (strOf nm) :: c5), rfl, by simp, h1, ih h2⟩
theorem ItsM.len : ∀ {vs : List V} {ns : List (List UInt8)} {cs : List Value}, ItsM w B g ns vs cs → ns.length = vs.length := by
  intro vs
  induction vs with
  | nil => intro ns cs h; rw [h.1]; rfl
  | cons a r ih =>
    intro ns cs h
    obtain ⟨n1, ns', d5, rest, rfl, rfl, h1, h2⟩ := h
    rw [List.length_cons, List.length_cons, ih h2]
/-- at the end: a list's values -/
theorem Its.done {b lo hi : Nat} (hlo : lo ≤ B) (hhi : w.heap.size ≤ hi) : ∀ {vs : List V} {cs : List Value} {i : Nat}, Its w B g vs cs → (∀ j u, cs[j]? = some u → w.cell? ⟨b, i * 5 + j, none⟩ = some u) → RdL w lo hi b i vs := by
  intro vs
  induction vs with
  | nil => intro cs i h _; rw [RdL]; trivial
  | cons v r ih =>
    intro cs i h hc
    obtain ⟨c5, rest, rfl, ⟨h1, h2, l1, l2, h3, h4, h5, h6⟩, h7⟩ := h
    rw [RdL]
    refine ⟨⟨c5, fun j u hu => hc j u (by rw [List.getElem?_append_left (List.getElem?_eq_some_iff.1 hu).1]; exact hu), RdV.keep (fun _ _ _ => rfl) (by omega) (by omega) v c5 h6⟩, ih h7 fun j u hu => ?_⟩
    have := hc (5 + j) u (by rw [List.getElem?_append_right (by omega), h1, Nat.add_sub_cancel_left]; exact hu)
    rw [show (i + 1) * 5 + j = i * 5 + (5 + j) by omega]
    exact this
/-- at the end: a map's members -/
theorem ItsM.done {b lo hi : Nat} (hlo : lo ≤ B) (hhi : w.heap.size ≤ hi) : ∀ {vs : List V} {ns : List (List UInt8)} {cs : List Value} {i : Nat}, ItsM w B g ns vs cs → (∀ j u, cs[j]? = some u → w.cell? ⟨b, i * 6 + j, none⟩ = some u) → RdM w lo hi b i ns vs := by
  intro vs
  induction vs with
  | nil => intro ns cs i h _; rw [RdM]; trivial
  | cons v r ih =>
    intro ns cs i h hc
    obtain ⟨nm, ns', c5, rest, rfl, rfl, ⟨h1, h2, l1, l2, h3, h4, h5, h6⟩, h7⟩ := h
    rw [RdM]
    refine ⟨nm, ns', rfl, hc 0 _ rfl, ⟨c5, fun j u hu => ?_, RdV.keep (fun _ _ _ => rfl) (by omega) (by omega) v c5 h6⟩, ih h7 fun j u hu => ?_⟩
    · have := hc (1 + j) u (by rw [Nat.add_comm 1 j, List.getElem?_cons_succ, List.getElem?_append_left (List.getElem?_eq_some_iff.1 hu).1]; exact hu)
      rw [show i * 6 + 1 + j = i * 6 + (1 + j) by omega]
      exact this
    · have := hc (6 + j) u (by rw [show 6 + j = (5 + j) + 1 by omega, List.getElem?_cons_succ, List.getElem?_append_right (by omega), h1, Nat.add_sub_cancel_left]; exact hu)
      rw [show (i + 1) * 6 + j = i * 6 + (6 + j) by omega]
      exact this
/-- the cells of a row that is owned -/
theorem own_cells {base E size n b c : Nat} {xs : List Value} (h : w.ownsRow base E size (.slice (some ⟨b, 0, none⟩) n c) n xs) : base ≤ b ∧ b < w.heap.size ∧ ∀ j u, xs[j]? = some u → w.cell? ⟨b, j, none⟩ = some u := by
  refine ⟨(h.lt b rfl).1, (h.lt b rfl).2, fun j u hu => ?_⟩
  have := h.cells (g := b) rfl j u hu
  rwa [show (⟨b, 0, none⟩ : Addr).add j = ⟨b, j, none⟩ by unfold Addr.add; split <;> simp_all] at this
/-- the value of a slice that is owned -/
theorem own_val {base E size n : Nat} {v : Value} {xs : List Value} (h : w.ownsRow base E size v n xs) : (v = .slice none 0 0 ∧ n = 0) ∨ ∃ b c, v = .slice (some ⟨b, 0, none⟩) n c ∧ base ≤ b ∧ b < w.heap.size := by
  rcases h.2 with ⟨h1, h2⟩ | ⟨b, cap, cur, rfl, _, _, _⟩
  · exact .inl ⟨h1, h2⟩
  · exact .inr ⟨b, cap, rfl, (h.lt b rfl).1, (h.lt b rfl).2⟩
theorem RdV_ls {base E : Nat} {v : Value} {cs : List Value} {vs : List V} {lo hi : Nat} (h : w.ownsRow base E 5 v vs.length cs) (hi1 : Its w B g vs cs) (h1 : lo ≤ base) (h2 : lo ≤ B) (h3 : w.heap.size ≤ hi) :
    RdV w lo hi (lsV vs) [.int .i64 5, .int .i64 0, .string ⟨#[]⟩, v, .slice none 0 0] := by
  unfold lsV
  rw [RdV]
  rcases own_val h with ⟨rfl, h0⟩ | ⟨b, c, rfl, hb1, hb2⟩
  · exact ⟨_, _, rfl, ⟨none, 0, by rw [h0], fun h => by omega⟩, ⟨none, 0, rfl, rfl, fun h => absurd h (by simp)⟩⟩
  · have hc := (own_cells h).2.2
    refine ⟨_, _, rfl, ⟨_, c, rfl, fun _ => ⟨b, rfl, by omega, by omega, Its.done h2 h3 hi1 fun j u hu => ?_⟩⟩, ⟨none, 0, rfl, rfl, fun h => absurd h (by simp)⟩⟩
    rw [show 0 * 5 + j = j by omega]
    exact hc j u hu
theorem RdV_mp {base E : Nat} {v : Value} {cs : List Value} {ns : List (List UInt8)} {vs : List V} {lo hi : Nat} (h : w.ownsRow base E 6 v vs.length cs) (hi1 : ItsM w B g ns vs cs) (h1 : lo ≤ base) (h2 : lo ≤ B) (h3 : w.heap.size ≤ hi) :
    RdV w lo hi (mpV (ns, vs)) [.int .i64 6, .int .i64 0, .string ⟨#[]⟩, .slice none 0 0, v] := by
  unfold mpV
  rw [RdV]
  have hl := hi1.len
  rcases own_val h with ⟨rfl, h0⟩ | ⟨b, c, rfl, hb1, hb2⟩
  · exact ⟨_, _, rfl, ⟨none, 0, rfl, fun h => absurd h (by simp)⟩, ⟨none, 0, by rw [h0], hl, fun h => by have h' : 0 < vs.length := h; omega⟩⟩
  · have hc := (own_cells h).2.2
    refine ⟨_, _, rfl, ⟨none, 0, rfl, fun h => absurd h (by simp)⟩, ⟨_, c, rfl, hl, fun _ => ⟨b, rfl, by omega, by omega, ItsM.done h2 h3 hi1 fun j u hu => ?_⟩⟩⟩
    rw [show 0 * 6 + j = j by omega]
    exact hc j u hu
end
theorem heap_set5 (w : World) (b k : Nat) (h : k ≠ b) (v0 v1 v2 v3 v4 : Value) :
    (((((w.setCell ⟨b, 0, none⟩ v0).setCell ⟨b, 1, none⟩ v1).setCell ⟨b, 2, none⟩ v2).setCell ⟨b, 3, none⟩ v3).setCell ⟨b, 4, none⟩ v4).heap[k]? = w.heap[k]? := by
  rw [heap_setCell_other _ ⟨b, 4, none⟩ k _ h, heap_setCell_other _ ⟨b, 3, none⟩ k _ h, heap_setCell_other _ ⟨b, 2, none⟩ k _ h, heap_setCell_other _ ⟨b, 1, none⟩ k _ h, heap_setCell_other _ ⟨b, 0, none⟩ k _ h]
/-- a cell of another block behind five stores -/
theorem cell_set5 (w : World) (b : Nat) (p : Addr) (h : b ≠ p.block) (v0 v1 v2 v3 v4 : Value) :
    (((((w.setCell ⟨b, 0, none⟩ v0).setCell ⟨b, 1, none⟩ v1).setCell ⟨b, 2, none⟩ v2).setCell ⟨b, 3, none⟩ v3).setCell ⟨b, 4, none⟩ v4).cell? p = w.cell? p := by
  have key : ∀ (w : World) (q : Addr) (u : Value), q.block = b → (w.setCell q u).cell? p = w.cell? p := fun w q u hq => World.cell?_setCell_other w q p u (fun e => h (by rw [← hq, e]))
  rw [key _ _ _ rfl, key _ _ _ rfl, key _ _ _ rfl, key _ _ _ rfl, key _ _ _ rfl]
section
variable {w wr w3 w4 : World} {rb B g lo : Nat} {row : Option Nat} {o : Obj}
/-- a block behind an append -/
theorem blk_next {b : Nat} (hg4 : (w3.alloc o).grownBy w4 row) (hb : b < w3.heap.size) (hne : row ≠ some b) : w4.heap[b]? = w3.heap[b]? :=
  (hg4.block b (by rw [szAlloc']; omega) (fun e => hne e.symm)).trans (heap_alloc_old _ _ hb)
theorem Fr.next (h : w.grownBy w3 (some rb)) (hg4 : (w3.alloc o).grownBy w4 row) (hrow : ∀ k, row = some k → w.heap.size ≤ k) (p : Addr) (hp : w.heap.size ≤ p.block) (u : Value) : w.grownBy (w4.setCell p u) (some rb) := by
  have h2 := Fr.alloc h o
  exact Fr.new ⟨hg4.os.trans h2.os, hg4.tape.trans h2.tape, hg4.output.trans h2.output, Nat.le_trans h2.size hg4.size, fun k hk hne => (hg4.block k (Nat.lt_of_lt_of_le hk h2.size) (fun e => by have := hrow k e.symm; omega)).trans (h2.block k hk hne)⟩ p hp u
theorem cell_next (hg3 : wr.grownBy w3 (some rb)) (hrb : rb < B) (hg4 : (w3.alloc o).grownBy w4 row) (p : Addr) (hp : p.block < B) (u : Value) (q : Addr) (h1 : B ≤ q.block) (h2 : q.block < wr.heap.size) (h3 : row ≠ some q.block) : (w4.setCell p u).cell? q = wr.cell? q := by
  have hs := hg3.size
  rw [World.cell?_setCell_other w4 p q u (fun e => by rw [e] at hp; omega), World.cell?_of_block (blk_next hg4 (by omega) h3)]
  exact World.cell?_of_block (hg3.block q.block h2 (fun e => by have := Option.some.inj e; omega))
theorem It.next {v : V} {c5 : List Value} (hg3 : wr.grownBy w3 (some rb)) (hB : B ≤ wr.heap.size) (hg4 : (w3.alloc o).grownBy w4 row) (hrow : ∀ k, row = some k → k < wr.heap.size) (hat : row = some g ∨ g = w3.heap.size + 1)
    (hl : c5.length = 5) (h1 : ∀ u ∈ c5, u.oneCell' = true) (hlo : wr.heap.size ≤ lo) (hV : RdV w3 lo w3.heap.size v c5) (p : Addr) (hp : p.block < B) (u : Value) : It (w4.setCell p u) B (some g) v c5 := by
  have hs := hg3.size
  have hs4 := hg4.size
  rw [szAlloc'] at hs4
  refine ⟨hl, h1, lo, w3.heap.size, by omega, by simp; omega, fun k hk => ?_, RdV.keep (fun q hq1 hq2 => ?_) (Nat.le_refl _) (Nat.le_refl _) v c5 hV⟩
  · obtain rfl := Option.some.inj hk
    rcases hat with h | h
    · have := hrow _ h; omega
    · omega
  · rw [World.cell?_setCell_other w4 p q u (fun e => by rw [e] at hp; omega)]
    exact World.cell?_of_block (blk_next hg4 hq2 (fun e => by have := hrow _ e; omega))
theorem Its.next {acc : List V} {cs : List Value} {v : V} {c5 : List Value} (hg3 : wr.grownBy w3 (some rb)) (hrb : rb < B) (hB : B ≤ wr.heap.size) (hg4 : (w3.alloc o).grownBy w4 row) (hrow : ∀ k, row = some k → k < wr.heap.size) (hat : row = some g ∨ g = w3.heap.size + 1)
    (hits : Its wr B row acc cs) (hl : c5.length = 5) (h1 : ∀ u ∈ c5, u.oneCell' = true) (hlo : wr.heap.size ≤ lo) (hV : RdV w3 lo w3.heap.size v c5) (p : Addr) (hp : p.block < B) (u : Value) : Its (w4.setCell p u) B (some g) (acc ++ [v]) (cs ++ c5) := by
  have hs := hg3.size
  have hs4 := hg4.size
  rw [szAlloc'] at hs4
  refine Its.snoc (It.next hg3 hB hg4 hrow hat hl h1 hlo hV p hp u) (hits.keep (fun q => cell_next hg3 hrb hg4 p hp u q) (by simp; omega) (fun k hk => ?_))
  obtain rfl := Option.some.inj hk
  rcases hat with h | h
  · exact .inl h
  · exact .inr (by omega)
theorem ItsM.next {acc : List V} {ns : List (List UInt8)} {nm : List UInt8} {cs : List Value} {v : V} {c5 : List Value} (hg3 : wr.grownBy w3 (some rb)) (hrb : rb < B) (hB : B ≤ wr.heap.size) (hg4 : (w3.alloc o).grownBy w4 row) (hrow : ∀ k, row = some k → k < wr.heap.size) (hat : row = some g ∨ g = w3.heap.size + 1)
    (hits : ItsM wr B row ns acc cs) (hl : c5.length = 5) (h1 : ∀ u ∈ c5, u.oneCell' = true) (hlo : wr.heap.size ≤ lo) (hV : RdV w3 lo w3.heap.size v c5) (p : Addr) (hp : p.block < B) (u : Value) : ItsM (w4.setCell p u) B (some g) (ns ++ [nm]) (acc ++ [v]) (cs ++ (.string (strOf nm) :: c5)) := by
  have hs := hg3.size
  have hs4 := hg4.size
  rw [szAlloc'] at hs4
  refine ItsM.snoc (It.next hg3 hB hg4 hrow hat hl h1 hlo hV p hp u) (hits.keep (fun q => cell_next hg3 hrb hg4 p hp u q) (by simp; omega) (fun k hk => ?_))
  obtain rfl := Option.some.inj hk
  rcases hat with h | h
  · exact .inl h
  · exact .inr (by omega)
end
end Go.Proofs.Ytcbiaflbncfliaa.Re
