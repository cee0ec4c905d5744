import Derived.Test.YtbepnjgbkfidiaaTtTsF
import Derived.Test.YtbepnjgbkfidiaaTtTsG
import Derived.Laws.AppendOwnNone
import Derived.BigQuiet
/- level, deep, Few of the document's answer: words. -/
namespace Go.Proofs.Ytbepnjgbkfidiaa.Tr
open Go.Proofs Go.RowKit Go.Lib
open Go.Proofs.Ytbepnjgbkfidiaa.Utf
open Go.Proofs.Ytbepnjgbkfidiaa.Sc
open Go.Proofs.Ytbepnjgbkfidiaa.Re

/-- values that are gathered in a row of new memory; they may hold what was there when the call began -/
structure NxAt (w0 wr : World) (base : Nat) (s : Value) (nx : List V) (rows : List (List Value)) : Prop where
  len : rows.length = nx.length
  five : ∀ r ∈ rows, r.length = 5
  sz : szAL 4611686018427387904 nx
  row : ∀ k (h1 : k < nx.length) (h2 : k < rows.length), RdA w0 0 w0.heap.size nx[k] rows[k]
  own : wr.ownsRow base 25 5 s nx.length rows.flatten
theorem NxAt.nil (w0 wr : World) (base : Nat) : NxAt w0 wr base (.slice none 0 0) [] [] :=
  ⟨rfl, (fun r h => by cases h), (by rw [szAL]; trivial), (fun k h => by simp at h), World.ownsRow_nil _ _ _ _⟩
theorem szAL_app {B : Nat} : ∀ {l r : List V}, szAL B l → szAL B r → szAL B (l ++ r)
  | [], _, _, h => h
  | v :: t, r, h, k => by rw [szAL] at h; rw [List.cons_append, szAL]; exact ⟨h.1, szAL_app h.2 k⟩
theorem NxAt.app {w0 wr w' : World} {base : Nat} {s s' : Value} {nx ls : List V} {rows rows2 : List (List Value)} (h : NxAt w0 wr base s nx rows) (hl : rows2.length = ls.length) (h5 : ∀ r ∈ rows2, r.length = 5) (hz : szAL 4611686018427387904 ls)
    (hr : ∀ k (h1 : k < ls.length) (h2 : k < rows2.length), RdA w0 0 w0.heap.size ls[k] rows2[k]) (ho : w'.ownsRow base 25 5 s' (nx.length + ls.length) (rows.flatten ++ rows2.flatten)) : NxAt w0 w' base s' (nx ++ ls) (rows ++ rows2) where
  len := by simp [h.len, hl]
  five := fun r hr => by
    rcases List.mem_append.1 hr with k | k
    · exact h.five r k
    · exact h5 r k
  sz := szAL_app h.sz hz
  row := fun k h1 h2 => by
    by_cases hk : k < nx.length
    · rw [List.getElem_append_left hk, List.getElem_append_left (by rw [h.len]; exact hk)]
      exact h.row k hk (by rw [h.len]; exact hk)
    · have e := h.len
      have hb : k - nx.length < ls.length := by simp at h1; omega
      rw [List.getElem_append_right (by omega), List.getElem_append_right (by omega)]
      have := hr (k - nx.length) hb (by omega)
      simpa only [e] using this
  own := by rw [List.length_append, List.flatten_append]; exact ho
theorem RdAL_of {w : World} {lo hi g : Nat} : ∀ (l : List V) (o : Nat), (∀ k (h : k < l.length), ∃ cs, (∀ j u, cs[j]? = some u → w.cell? ⟨g, o + k * 5 + j, none⟩ = some u) ∧ RdA w lo hi l[k] cs) → RdAL w lo hi g o l
  | [], o, _ => by rw [RdAL]; trivial
  | v :: r, o, h => by
    rw [RdAL]
    obtain ⟨cs, h1, h2⟩ := h 0 (by simp)
    refine ⟨⟨cs, fun j u hu => by have := h1 j u hu; rwa [Nat.zero_mul, Nat.add_zero] at this, h2⟩, RdAL_of r (o + 5) fun k hk => ?_⟩
    obtain ⟨cs, q1, q2⟩ := h (k + 1) (by simpa using hk)
    exact ⟨cs, fun j u hu => by have := q1 j u hu; rwa [show o + (k + 1) * 5 + j = o + 5 + k * 5 + j by omega] at this, q2⟩
/-- what was gathered, read as a slice of values -/
theorem NxAt.read {w0 wr : World} {base : Nat} {A : Option Addr} {c : Nat} {nx : List V} {rows : List (List Value)} (h : NxAt w0 wr base (.slice A nx.length c) nx rows) (hb : Below w0.heap.size w0 wr) :
    0 < nx.length → ∃ g o, A = some ⟨g, o, none⟩ ∧ 0 ≤ g ∧ g < wr.heap.size ∧ RdAL wr 0 wr.heap.size g o nx := fun h0 => by
  obtain ⟨g, e, _, g2, hc⟩ := own_at h.own h0
  refine ⟨g, 0, e, Nat.zero_le _, g2, RdAL_of nx 0 fun k hk => ?_⟩
  have := hc.sub h.five k (by rw [h.len]; exact hk)
  exact ⟨rows[k]'(by rw [h.len]; exact hk), fun j u hu => (this j u hu).1, (h.row k hk (by rw [h.len]; exact hk)).below hb (Nat.le_refl _) hb.size⟩
/-- an append of a slice that may be nil -/
theorem wpList_append_any {P : Program} {w : World} {ops : Array Oper} {rest : List Oper} {o : Oper} {a : Act} {Q : Exit → Act → World → Prop} (hgd : o.guard = none) (s x : Operand) (t : TypeId)
    (ho : o.op = .call { callee := .builtin .append, args := #[s, x], argTypes := #[t, t] }) (base : Nat) (e : TypeId) (i : TypeInfo) (z : Value) (size bytes : Nat) (ht : P.underlying t = some (.slice e)) (hi : P.info? e = some i) (hz : i.zero = some z)
    (hsize : i.size = size) (hby : i.bytes = bytes) (hzs : z.cells.size = size) (hsz : 0 < size) (v : Value) (n : Nat) (xs : List Value) (hs : a.eval s = v) (hown : w.ownsRow base e size v n xs)
    (A : Option Addr) (m c : Nat) (news : List Value) (hx : a.eval x = .slice A m c) (hl : news.length = m * size) (hA : A = none → m = 0) (hnews : ∀ ad, A = some ad → ∀ j u, news[j]? = some u → w.cell? (ad.add j) = some u) (h1 : ∀ u ∈ news, u.oneCell' = true)
    (h63 : n + m ≤ maxLen) (hbytes : (n + m) * bytes ≤ 140737488355328) (hbase : base ≤ w.heap.size)
    (h : ∀ v' w', w'.ownsRow base e size v' (n + m) (xs ++ news) → w.grownBy w' v.ownBlock → wpList P ops Q rest (a.put o.dst v') w') : wpList P ops Q (o :: rest) a w := by
  cases A with
  | some ad => exact wpList_append_own w hgd s x t ho base e i z size bytes ht hi hz hsize hby hzs hsz v n xs hs hown ad m c news hx hl (hnews ad rfl) h1 h63 hbytes hbase fun v' w' q1 q2 _ => h v' w' q1 q2
  | none =>
    obtain rfl := hA rfl
    have hn : news = [] := List.eq_nil_of_length_eq_zero (by omega)
    subst hn
    refine wpList_plain hgd fun K hK => ?_
    have hrun : (Builtin.append_ #[t, t] o.type #[v, .slice none 0 c]).run P w = .ok v w := by
      rcases hown.2 with ⟨rfl, rfl⟩ | ⟨g, cap, cur, rfl, _, _, hnc, _⟩
      · simp [Builtin.append_, run_underlying ht, sizeOf, typeInfo, hi, Builtin.lenOf, Builtin.firstCells]
      · simp [Builtin.append_, run_underlying ht, sizeOf, typeInfo, hi, Builtin.lenOf, Builtin.firstCells, hnc, storeCells]
    unfold Oper.wp
    simp [execOp, ho, resolve, invoke, builtin, hs, hx, hrun, Result.andThen]
    exact hK _ _ (h v w (by simpa using hown) (World.grownBy.refl w _))
/-- the values of a slice, row by row, in a later world -/
theorem sub_rows {w wr : World} {A : Option Addr} {ls : List V} (hb : Below w.heap.size w wr) (h : 0 < ls.length → ∃ g o, A = some ⟨g, o, none⟩ ∧ 0 ≤ g ∧ g < w.heap.size ∧ RdAL w 0 w.heap.size g o ls) :
    ∃ rows : List (List Value), rows.length = ls.length ∧ (∀ r ∈ rows, r.length = 5) ∧ (∀ u ∈ rows.flatten, u.oneCell' = true) ∧ (∀ ad, A = some ad → ∀ j u, rows.flatten[j]? = some u → wr.cell? (ad.add j) = some u) ∧ (A = none → ls.length = 0) ∧
      ∀ k (h1 : k < ls.length) (h2 : k < rows.length), RdA w 0 w.heap.size ls[k] rows[k] := by
  by_cases h0 : 0 < ls.length
  · obtain ⟨g, o, rfl, _, hg, hr⟩ := h h0
    obtain ⟨rows, r1, r2, r3, r4⟩ := rowsL hr
    refine ⟨rows, r1, r2.1, rows_one (s := 5) r3, fun ad e j u hu => ?_, (fun e => by cases e), r4⟩
    injection e with e
    subst e
    rw [Addr.add_lit]
    exact (hb.cell (p := ⟨g, o + j, none⟩) hg).trans (rows_flat (by decide) r2 j u hu)
  · have e : ls = [] := List.eq_nil_of_length_eq_zero (by omega)
    subst e
    exact ⟨[], rfl, (fun r h => by cases h), (fun u h => by simp at h), (fun ad _ j u hu => by simp at hu), (fun _ => rfl), (fun k h => by simp at h)⟩
end Go.Proofs.Ytbepnjgbkfidiaa.Tr
