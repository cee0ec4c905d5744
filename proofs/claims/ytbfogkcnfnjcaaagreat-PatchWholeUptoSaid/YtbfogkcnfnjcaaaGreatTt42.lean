/- Merged: PaWh. -/
import Derived.Test.YtbfogkcnfnjcaaaGreatTt41
import Derived.Test.YtbfogkcnfnjcaaaGreatTt33
import Derived.Deep.MidRow
namespace Go.Proofs.YtbfogkcnfnjcaaaGreat.Pa
open Go.Proofs Go.RowKit Go.Lib
open Go.Proofs.YtbfogkcnfnjcaaaGreat.Utf
open Go.Proofs.YtbfogkcnfnjcaaaGreat.Sc
open Go.Proofs.YtbfogkcnfnjcaaaGreat.Re
open Go.Proofs.YtbfogkcnfnjcaaaGreat.Tr
open Go.Proofs.YtbfogkcnfnjcaaaGreat.Po
open Go.Proofs.YtbfogkcnfnjcaaaGreat.Em (lenV szU wfV)

abbrev nul5 : List Value := [.int .i64 1, .int .i64 0, .string ⟨#[]⟩, .slice none 0 0, .slice none 0 0]
def rwP (d : List M6) : List (List Value) := d.map fun x => .string (strOf (esc x.nm)) :: m6tail x
def rwN (v : V) (d : List M6) : List (List Value) := (d.filter fun x => x.nm ∉ v.ns).map fun x => .string (strOf (esc x.nm)) :: nul5
theorem rwP_succ {d : List M6} {k : Nat} (h : k < d.length) : rwP (d.take (k + 1)) = rwP (d.take k) ++ [.string (strOf (esc d[k].nm)) :: m6tail d[k]] := by
  unfold rwP
  rw [List.take_succ_eq_append_getElem h, List.map_append]
  rfl
theorem rwP_len {d : List M6} {k : Nat} (h : k ≤ d.length) : (rwP (d.take k)).length = k := by unfold rwP; rw [List.length_map, List.length_take]; omega
theorem rwN_yes {v : V} {d : List M6} {k : Nat} (h : k < d.length) (hn : d[k].nm ∉ v.ns) : rwN v (d.take (k + 1)) = rwN v (d.take k) ++ [.string (strOf (esc d[k].nm)) :: nul5] := by
  unfold rwN
  rw [List.take_succ_eq_append_getElem h, List.filter_append, List.map_append]
  congr 1
  rw [List.filter_cons, if_pos (decide_eq_true hn)]
  rfl
theorem rwN_no {v : V} {d : List M6} {k : Nat} (h : k < d.length) (hn : d[k].nm ∈ v.ns) : rwN v (d.take (k + 1)) = rwN v (d.take k) := by
  unfold rwN
  rw [List.take_succ_eq_append_getElem h, List.filter_append, List.map_append, List.filter_cons, if_neg (by simp [hn])]
  simp
theorem rwN_len (v : V) (d : List M6) (k : Nat) : (rwN v (d.take k)).length ≤ k := by
  unfold rwN
  rw [List.length_map]
  exact Nat.le_trans (List.length_filter_le _ _) (by rw [List.length_take]; omega)
def trp (v : V) (dv dp : List M6) : List (List UInt8 × V × List Value) := ((dv.zip v.ms).map fun x => (esc x.1.nm, x.2, m6tail x.1)) ++ (dp.filter fun x => x.nm ∉ v.ns).map fun x => (esc x.nm, nulV, nul5)
theorem trp_rows {v : V} {dv dp : List M6} (h : dv.length = v.ms.length) : (trp v dv dp).map (fun t => Value.string (strOf t.1) :: t.2.2) = rwP dv ++ rwN v dp := by
  unfold trp rwP rwN
  rw [List.map_append, List.map_map, List.map_map]
  congr 1
  have e : dv = (dv.zip v.ms).map Prod.fst := (List.map_fst_zip (by omega)).symm
  conv => rhs; rw [e]
  rw [List.map_map]
  rfl
theorem trp_N {v p : V} {dv dp : List M6} (h : dv.length = v.ms.length) (h1 : dv.map M6.nm = v.ns) (h3 : dp.map M6.nm = p.ns) : (trp v dv dp).map (fun t => t.1) = whN v p := by
  unfold trp whN lck
  rw [List.map_append, List.map_append, List.map_map, List.map_map, ← h1, ← h3]
  congr 1
  · have e : dv = (dv.zip v.ms).map Prod.fst := (List.map_fst_zip (by omega)).symm
    conv => rhs; rw [e]
    rw [List.map_map, List.map_map]
    rfl
  · rw [List.filter_map, List.map_map]
    rfl
theorem trp_M {v p : V} {dv dp : List M6} (h : dv.length = v.ms.length) (h3 : dp.map M6.nm = p.ns) : (trp v dv dp).map (fun t => t.2.1) = whM v p := by
  unfold trp whM lck
  rw [List.map_append, List.map_map, List.map_map, ← h3]
  congr 1
  · have e : v.ms = (dv.zip v.ms).map Prod.snd := (List.map_snd_zip (by omega)).symm
    conv => rhs; rw [e]
    rfl
  · rw [List.filter_map, List.map_map]
    rfl
theorem rd_whole {w wE : World} {b : Nat} {v p : V} {dv dp : List M6} (hb : Below w.heap.size w wE) (hwb : w.heap.size ≤ b) (hv : lenV v) (ho : OutAt wE b (rwP dv ++ rwN v dp)) (h1 : dv.map M6.nm = v.ns) (h2 : dv.length = v.ms.length) (h3 : dp.map M6.nm = p.ns)
    (h4 : ∀ i (a : i < dv.length) (c : i < v.ms.length), RdA w 0 w.heap.size v.ms[i] (m6tail dv[i])) :
    ∃ A c, wE.heap[b]? = some (.cells #[.int .i64 6, .int .i64 0, .string ⟨#[]⟩, .slice none 0 0, .slice A (whM v p).length c] 25 (0, 0)) ∧ RdA wE 0 wE.heap.size (whP v p) [.int .i64 6, .int .i64 0, .string ⟨#[]⟩, .slice none 0 0, .slice A (whM v p).length c] := by
  obtain ⟨A, c, e1, e2⟩ := ho
  have hR := trp_rows (dv := dv) (dp := dp) h2
  have hN := trp_N (p := p) h2 h1 h3
  have hM := trp_M (p := p) (dv := dv) h2 h3
  have hrl : (rwP dv ++ rwN v dp).length = (whM v p).length := by rw [← hR, ← hM, List.length_map, List.length_map]
  rw [hrl] at e1 e2
  have hRd : ∀ t ∈ trp v dv dp, RdA w 0 w.heap.size t.2.1 t.2.2 := fun t ht => by
    unfold trp at ht
    rcases List.mem_append.1 ht with h | h
    · obtain ⟨x, hx, rfl⟩ := List.mem_map.1 h
      obtain ⟨i, hi, rfl⟩ := List.getElem_of_mem hx
      rw [List.length_zip] at hi
      rw [List.getElem_zip]
      exact h4 i (by omega) (by omega)
    · obtain ⟨x, _, rfl⟩ := List.mem_map.1 h
      show RdA w 0 w.heap.size nulV nul5
      rw [nulV, RdA]
      exact ⟨none, 0, none, 0, rfl, rfl, fun h => by simp at h, fun h => by simp at h⟩
  have hgm := gm_of_own (w := w) (w' := wE) (ns := whN v p) (ms := whM v p) (rows := rwP dv ++ rwN v dp) rfl hrl (fun r hr => by
    rw [← hR] at hr
    obtain ⟨t, ht, rfl⟩ := List.mem_map.1 hr
    obtain ⟨_, _, _, _, e, -⟩ := (hRd t ht).cells
    rw [List.length_cons, e]
    rfl) (fun k k1 k2 k3 => by
    have hk : k < (trp v dv dp).length := by rw [← hM, List.length_map] at k1; exact k1
    refine ⟨((trp v dv dp)[k]).2.2, ?_, ?_⟩
    · simp only [← hR, ← hN, List.getElem_map]
    · simp only [← hM, List.getElem_map]
      exact RdA.keep (fun q _ hq => hb.cell (p := q) hq) (Nat.le_refl _) (Nat.le_refl _) _ _ (hRd _ (List.getElem_mem hk))) e2
  refine ⟨A, c, e1, GivesM.rd (own_le e2) (wh_len hv) hb.size fun h0 => ?_⟩
  obtain ⟨g, q1, q2, q3, q4⟩ := hgm h0
  exact ⟨g, q1, by omega, q3, q4⟩
def SV (W : World) (E : Nat) (o : Obj) (g : Nat) (q : Nat) (v0 v1 v2 v3 v4 v5 : Value) : Prop := W.heap[E]? = some o ∧ Six W g q v0 v1 v2 v3 v4 v5
theorem SV.keep {W W' : World} {E : Nat} {o : Obj} {g q : Nat} {v0 v1 v2 v3 v4 v5 : Value} (h : SV W E o g q v0 v1 v2 v3 v4 v5) (h1 : W'.heap[E]? = W.heap[E]?) (h2 : W'.heap[g]? = W.heap[g]?) : SV W' E o g q v0 v1 v2 v3 v4 v5 :=
  ⟨h1.trans h.1, h.2.keep fun i => cell_of_blk (p := ⟨g, i, none⟩) h2⟩
end Go.Proofs.YtbfogkcnfnjcaaaGreat.Pa
