import Derived.Test.YthokaeaefmajjaaScW2
import Derived.Laws.Concat
/- Walk of ScanSplits. -/
namespace Go.Proofs.Ythokaeaefmajjaa.Sc
open Go.RowKit
open Go.Proofs.Ythokaeaefmajjaa.Utf

section
variable {P : Program} {ops : Array Oper} {Q : Exit → Act → World → Prop} {a : Act} {w : World} {rest : List Oper} {o : Oper}
theorem wpList_wanted (hg : Region.wanted o (yielded ops a.tmps) = true)
    (h : ∀ K : Act → World → Prop, (∀ a w, wpList P ops Q rest a w → K a w) → o.wp P a w K Q) : wpList P ops Q (o :: rest) a w :=
  wpList_step fun K hK => by rw [if_pos hg]; exact h K hK
/-- an append behind a guard that says yes -/
theorem wpList_append_own_g (hg : Region.wanted o (yielded ops a.tmps) = true) (s x : Operand) (t : TypeId)
    (ho : o.op = .call { callee := .builtin .append, args := #[s, x], argTypes := #[t, t] })
    (base : Nat) (e : TypeId) (i : TypeInfo) (z : Value) (size bytes : Nat) (ht : P.underlying t = some (.slice e)) (hi : P.info? e = some i) (hz : i.zero = some z)
    (hsize : i.size = size) (hby : i.bytes = bytes) (hzs : z.cells.size = size) (hsz : 0 < size)
    (v : Value) (n : Nat) (xs : List Value) (hs : a.eval s = v) (hown : w.ownsRow base e size v n xs)
    (ad : Addr) (m c : Nat) (news : List Value) (hx : a.eval x = .slice (some ad) m c) (hl : news.length = m * size) (hnews : ∀ j u, news[j]? = some u → w.cell? (ad.add j) = some u) (h1 : ∀ u ∈ news, u.oneCell' = true)
    (h63 : n + m ≤ maxLen) (hbytes : (n + m) * bytes ≤ 140737488355328) (hbase : base ≤ w.heap.size)
    (h : ∀ v' w', w'.ownsRow base e size v' (n + m) (xs ++ news) → w.grownBy w' v.ownBlock → wpList P ops Q rest (a.put o.dst v') w') :
    wpList P ops Q (o :: rest) a w := by
  refine wpList_wanted hg fun K hK => ?_
  obtain ⟨v', w', hr, h2, h3, h4⟩ := run_append_own (P := P) w base t o.type e i z size bytes ht hi hz hsize hby hzs hsz v n xs hown ad m c news hl hnews h1 h63 hbytes hbase
  unfold Oper.wp execOp
  simp only [ho, resolve, invoke, builtin, Sem.run_bind, Sem.run_pure, Result.andThen_ok, List.map_toArray, List.map_cons, List.map_nil, hs, hx, hr]
  exact hK _ _ (h v' w' h2 h3)
theorem wpList_append_none_g (hg : Region.wanted o (yielded ops a.tmps) = true) (s x : Operand) (t : TypeId)
    (ho : o.op = .call { callee := .builtin .append, args := #[s, x], argTypes := #[t, t] })
    (base : Nat) (e : TypeId) (i : TypeInfo) (size : Nat) (ht : P.underlying t = some (.slice e)) (hi : P.info? e = some i)
    (v : Value) (n : Nat) (xs : List Value) (hs : a.eval s = v) (hown : w.ownsRow base e size v n xs) (hx : a.eval x = .slice none 0 0)
    (h : wpList P ops Q rest (a.put o.dst v) w) :
    wpList P ops Q (o :: rest) a w := by
  refine wpList_wanted hg fun K hK => ?_
  have hr := run_append_owned_none (P := P) w base t o.type e i size ht hi v n xs hown
  unfold Oper.wp execOp
  simp only [ho, resolve, invoke, builtin, Sem.run_bind, Sem.run_pure, Result.andThen_ok, List.map_toArray, List.map_cons, List.map_nil, hs, hx, hr]
  exact hK _ _ h
end

theorem toksC_cell1 (ts : List Tok) : ∀ u ∈ toksC ts, u.oneCell' = true := by
  intro u hu
  simp only [toksC, List.mem_flatten, List.mem_map] at hu
  obtain ⟨l, ⟨t, _, rfl⟩, hu⟩ := hu
  simp only [tokC, List.mem_cons, List.not_mem_nil, or_false] at hu
  rcases hu with rfl | rfl | rfl | rfl <;> rfl
/-- another place for one of the tokens -/
theorem toksC_set : ∀ (ts : List Tok) (i : Nat) (h : i < ts.length) (z : Int), toksC (ts.set i (ts[i].1, ts[i].2.1, ts[i].2.2.1, z)) = (toksC ts).set (i * 4 + 3) (.int .i64 z) := by
  intro ts
  induction ts with
  | nil => intro i h; simp at h
  | cons t r ih =>
    intro i h z
    have e : ∀ t (r : List Tok), toksC (t :: r) = tokC t ++ toksC r := fun t r => by rw [show t :: r = [t] ++ r from rfl, toksC_app, toksC_one]
    have l : (tokC t).length = 4 := rfl
    cases i with
    | zero =>
      rw [List.set_cons_zero, e, e, List.set_append_left _ _ (by rw [l]; omega)]
      rfl
    | succ i =>
      rw [List.set_cons_succ, e, e, List.set_append_right _ _ (by rw [l]; omega), l]
      congr 1
      rw [show (i + 1) * 4 + 3 - 4 = i * 4 + 3 by omega]
      exact ih i (by simpa using h) z
end Go.Proofs.Ythokaeaefmajjaa.Sc
