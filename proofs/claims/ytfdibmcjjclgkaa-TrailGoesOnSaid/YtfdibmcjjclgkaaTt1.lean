/- Merged: RoC. -/
import Derived.Test.YtfdibmcjjclgkaaTt0
import Derived.Laws.Concat
import Derived.WalkKit
import Derived.Deep.MidRow
namespace Go.Proofs.Ytfdibmcjjclgkaa.Ro
open Go.Proofs Go.RowKit
open Go.Proofs.Ytfdibmcjjclgkaa.Utf

section
variable {P : Program} {ops : Array Oper} {Q : Exit → Act → World → Prop} {a : Act} {w : World} {rest : List Oper} {o : Oper}
theorem wpl_wanted (hg : Region.wanted o (yielded ops a.tmps) = true) (h : ∀ K : Act → World → Prop, (∀ a w, wpList P ops Q rest a w → K a w) → o.wp P a w K Q) : wpList P ops Q (o :: rest) a w :=
  wpList_step fun K hK => by rw [if_pos hg]; exact h K hK
theorem append_any_g (hg : Region.wanted o (yielded ops a.tmps) = true) (s x : Operand) (t : TypeId)
    (ho : o.op = .call { callee := .builtin .append, args := #[s, x], argTypes := #[t, t] }) (base : Nat) (e : TypeId) (i : TypeInfo) (z : Value) (size bytes : Nat) (ht : P.underlying t = some (.slice e)) (hi : P.info? e = some i) (hz : i.zero = some z)
    (hsize : i.size = size) (hby : i.bytes = bytes) (hzs : z.cells.size = size) (hsz : 0 < size) (v : Value) (n : Nat) (xs : List Value) (hs : a.eval s = v) (hown : w.ownsRow base e size v n xs)
    (A : Option Addr) (m c : Nat) (news : List Value) (hx : a.eval x = .slice A m c) (hl : news.length = m * size) (hA : A = none → m = 0) (hnews : ∀ ad, A = some ad → ∀ j u, news[j]? = some u → w.cell? (ad.add j) = some u) (h1 : ∀ u ∈ news, u.oneCell' = true)
    (h63 : n + m ≤ maxLen) (hbytes : (n + m) * bytes ≤ 140737488355328) (hbase : base ≤ w.heap.size)
    (h : ∀ v' w', w'.ownsRow base e size v' (n + m) (xs ++ news) → w.grownBy w' v.ownBlock → wpList P ops Q rest (a.put o.dst v') w') : wpList P ops Q (o :: rest) a w := by
  refine wpl_wanted hg fun K hK => ?_
  cases A with
  | some ad =>
    obtain ⟨v', w', hr, h2, h3, h4⟩ := run_append_own (P := P) w base t o.type e i z size bytes ht hi hz hsize hby hzs hsz v n xs hown ad m c news hl (hnews ad rfl) h1 h63 hbytes hbase
    unfold Oper.wp execOp
    simp only [ho, resolve, invoke, builtin, Sem.run_bind, Sem.run_pure, Result.andThen_ok, List.map_toArray, List.map_cons, List.map_nil, hs, hx, hr]
    exact hK _ _ (h v' w' h2 h3)
  | none =>
    obtain rfl := hA rfl
    have hn : news = [] := List.eq_nil_of_length_eq_zero (by omega)
    subst hn
    have hrun : (Builtin.append_ #[t, t] o.type #[v, .slice none 0 c]).run P w = .ok v w := by
      rcases hown.2 with ⟨rfl, rfl⟩ | ⟨g, cap, cur, rfl, _, _, hnc, _⟩
      · simp [Builtin.append_, run_underlying ht, sizeOf, typeInfo, hi, Builtin.lenOf, Builtin.firstCells]
      · simp [Builtin.append_, run_underlying ht, sizeOf, typeInfo, hi, Builtin.lenOf, Builtin.firstCells, hnc, storeCells]
    unfold Oper.wp
    simp [execOp, ho, resolve, invoke, builtin, hs, hx, hrun, Result.andThen]
    exact hK _ _ (h v w (by simpa using hown) (World.grownBy.refl w _))
end
theorem rdr_open {w : World} {s : Nat} {v : Value} {rows : List (List Value)} (h : RdR w w.heap.size s v rows) : ∃ A c, v = .slice A rows.length c ∧ (A = none → rows.length = 0) ∧ ∀ ad, A = some ad → ∀ j u, rows.flatten[j]? = some u → w.cell? (ad.add j) = some u := by
  obtain ⟨hs, A, c, rfl, hA⟩ := h
  refine ⟨A, c, rfl, fun e => ?_, fun ad e j u hu => ?_⟩
  · rcases Nat.eq_zero_or_pos rows.length with h0 | h0
    · exact h0
    · obtain ⟨g, o, e2, -⟩ := hA h0
      rw [e] at e2; cases e2
  · have hj := (List.getElem?_eq_some_iff.1 hu).1
    rw [flat_len rows hs] at hj
    have h0 : 0 < rows.length := by
      rcases Nat.eq_zero_or_pos rows.length with h0 | h0
      · rw [h0, Nat.zero_mul] at hj; omega
      · exact h0
    have hs0 : 0 < s := by
      rcases Nat.eq_zero_or_pos s with h1 | h1
      · rw [h1, Nat.mul_zero] at hj; omega
      · exact h1
    obtain ⟨g, o, e2, -, hx⟩ := hA h0
    rw [e] at e2
    injection e2 with e2
    subst e2
    have hk : j / s < rows.length := Nat.div_lt_of_lt_mul (by rw [Nat.mul_comm]; exact hj)
    have hm : j % s < s := Nat.mod_lt _ hs0
    have hj2 : j / s * s + j % s = j := by rw [Nat.mul_comm]; exact Nat.div_add_mod _ _
    have h2 := flat_at rows hs (j / s) hk (j % s) hm
    rw [hj2, hu] at h2
    have h3 := hx (j / s) hk (j % s) u h2.symm
    rw [Nat.add_assoc, hj2] at h3
    have e3 : (⟨g, o, none⟩ : Addr).add j = ⟨g, o + j, none⟩ := by unfold Addr.add; split <;> simp_all
    rw [e3]; exact h3
theorem own_spot {w : World} {B E s n : Nat} {v : Value} {xs : List Value} (h : w.ownsRow B E s v n xs) (h0 : 0 < xs.length) :
    ∃ g c, v = .slice (some ⟨g, 0, none⟩) n c ∧ B ≤ g ∧ g < w.heap.size ∧ w.there g 0 xs.length := by
  have hl := h.1
  rcases h.2 with ⟨_, h1⟩ | ⟨g, cap, cur, rfl, hb, hg, hc1, hc2, hc3, hx⟩
  · rw [h1, Nat.zero_mul] at hl
    omega
  · refine ⟨g, cap, rfl, hb, (Array.getElem?_eq_some_iff.1 hg).1, fun i hi => ?_⟩
    have hic : i < cur.size := by
      rw [← hx, List.length_take] at hi
      have := Nat.lt_of_lt_of_le hi (Nat.min_le_right _ _)
      rwa [Array.length_toList] at this
    refine ⟨?_, ?_⟩
    · rw [cell_of_row w g (0 + i) cur E (0, 0) hg, Nat.zero_add, Array.getElem?_eq_getElem hic]; rfl
    · simp [World.frozen?, hg]
end Go.Proofs.Ytfdibmcjjclgkaa.Ro
