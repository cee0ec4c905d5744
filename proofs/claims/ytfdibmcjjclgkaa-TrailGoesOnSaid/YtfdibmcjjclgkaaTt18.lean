/- Merged: TlK. -/
import Derived.Test.YtfdibmcjjclgkaaTt17
import Derived.Test.YtfdibmcjjclgkaaTt7
import Derived.Test.YtfdibmcjjclgkaaTt6
import Derived.Test.YtfdibmcjjclgkaaTt15
namespace Go.Proofs.Ytfdibmcjjclgkaa.Tl
open Go.Proofs Go.RowKit Go.Shelf
open Go.Maps (Keyed string_keyed IsMap isMap_empty atKey_put_same atKey_put_other has_put_same has_put_other)
open Go.Proofs.Ytfdibmcjjclgkaa.Utf
open Go.Proofs.Ytfdibmcjjclgkaa.Ro
attribute [local go_sem] Oper.semAt_some

def ptrElem (v : Value) : Option (DataW Unit × List MemPlace) := match v with
  | .pointer none => some (.lit (.int .i64 (-1)), [])
  | .pointer (some ⟨b, 0, none⟩) => some (.lit (.int .i64 (b : Int)), [])
  | _ => none
theorem ptrElem_mk (b : Nat) : ptrElem (ptrV b) = some (.lit (.int .i64 (b : Int)), []) := rfl
theorem ptrElem_inv {v : Value} {b : Nat} {ps : List MemPlace} (h : ptrElem v = some (.lit (.int .i64 (b : Int)), ps)) : v = ptrV b := by
  unfold ptrElem at h
  split at h
  · simp at h
  · rename_i b'
    simp at h
    obtain ⟨h, -⟩ := h
    have : b' = b := by omega
    rw [this]
  · cases h
def pD (O : List (Nat × Pa)) : DataW Unit := O.foldl (fun D x => D.put (eK x.2.1) (.lit (.int .i64 (x.1 : Int)))) (.map [])
theorem pD_snoc (O : List (Nat × Pa)) (x : Nat × Pa) : pD (O ++ [x]) = (pD O).put (eK x.2.1) (.lit (.int .i64 (x.1 : Int))) := by simp [pD]
theorem pD_isMap (O : List (Nat × Pa)) : IsMap (pD O) := by
  have key : ∀ (l : List (Nat × Pa)) (D : DataW Unit), IsMap D → IsMap (l.foldl (fun D x => D.put (eK x.2.1) (.lit (.int .i64 (x.1 : Int)))) D) := by
    intro l
    induction l with
    | nil => intro D h; exact h
    | cons a r ih => intro D h; exact ih _ (h.put _ _)
  exact key O _ isMap_empty
theorem pD_has (id : List UInt8) (O : List (Nat × Pa)) : Maps.has (pD O) (eK id) = decide (id ∈ O.map (·.2.1)) := by
  have key : ∀ n, n ≤ O.length → Maps.has (pD (O.take n)) (eK id) = decide (id ∈ (O.take n).map (·.2.1)) := by
    intro n
    induction n with
    | zero => intro _; rfl
    | succ n ih =>
      intro h
      rw [List.take_succ_eq_append_getElem (by omega), pD_snoc]
      by_cases e : O[n].2.1 = id
      · rw [e, has_put_same (pD_isMap _) (eK_key _)]
        exact (decide_eq_true (by rw [List.map_append]; exact List.mem_append_right _ (by simp [e]))).symm
      · rw [has_put_other (fun k => e (by unfold eK at k; injection k with k; exact k.symm)), ih (by omega)]
        refine decide_eq_decide.2 ⟨fun h => by rw [List.map_append]; exact List.mem_append_left _ h, fun h => ?_⟩
        rw [List.map_append] at h
        rcases List.mem_append.1 h with h | h
        · exact h
        · simp at h
          exact absurd h.symm e
  have := key O.length (Nat.le_refl _)
  rwa [List.take_length] at this
theorem pD_at {O : List (Nat × Pa)} (hn : (O.map (·.2.1)).Nodup) {x : Nat × Pa} (hx : x ∈ O) (z : DataW Unit) : (pD O).atKey (eK x.2.1) z = .lit (.int .i64 (x.1 : Int)) := by
  obtain ⟨i, hi, rfl⟩ := List.mem_iff_getElem.1 hx
  have key : ∀ n, n ≤ O.length → i < n → (pD (O.take n)).atKey (eK O[i].2.1) z = .lit (.int .i64 (O[i].1 : Int)) := by
    intro n
    induction n with
    | zero => intro _ h; omega
    | succ n ih =>
      intro h h2
      rw [List.take_succ_eq_append_getElem (by omega), pD_snoc]
      by_cases e : i = n
      · subst e
        rw [atKey_put_same (pD_isMap _) (eK_key _)]
      · have hne : O[n].2.1 ≠ O[i].2.1 := fun k => by
          have := List.pairwise_iff_getElem.1 hn i n (by rw [List.length_map]; omega) (by rw [List.length_map]; omega) (by omega)
          rw [List.getElem_map, List.getElem_map] at this
          exact this k.symm
        rw [atKey_put_other (fun k => hne (by unfold eK at k; injection k with k; exact k.symm)), ih (by omega) (by omega)]
  have := key O.length (Nat.le_refl _) hi
  rwa [List.take_length] at this
def upO (e : En) (O : List (Nat × Pa)) : List (Nat × Pa) := O.map (fun x => (x.1, upW e x.2))
theorem pD_up (e : En) (O : List (Nat × Pa)) : pD (upO e O) = pD O := by
  unfold pD upO
  rw [List.foldl_map]
  congr 1
  funext D x
  rw [up_fst]
theorem zeroQ (w : World) : (zeroValue 52).run Try.prog w = .ok (.pointer none) w := by kernel_rfl
def vE (pre : List (Tr.Ix × NE)) : List En := (pre.map (·.2.1)).reverse
theorem vE_snoc (pre : List (Tr.Ix × NE)) (x : Tr.Ix × NE) : vE (pre ++ [x]) = x.2.1 :: vE pre := by simp [vE]
theorem vE_all (d : List NE) : vE (seqX 0 d) = d.map (·.1) := by
  have h := seqX_val d 0
  unfold vE
  conv => rhs; rw [← h]
  rw [List.map_reverse, List.map_map]
  rfl
theorem fnd_cons (s : Int) (e : En) (l : List En) : fndS s (e :: l) = stpB s e (fndS s l) := rfl

structure SiI (m : Nat) (s : Int) (vl : Value) (O : List (Nat × Pa)) (k : Nat) (W : World) : Prop where
  bs : Boxed W m 2 (.int .i64 s)
  bm : Boxed W (m + 2) 47 (.map (some (m + 1)))
  bB : Boxed W (m + 4) 22 vl
  row : ∃ v, Boxed W (m + 3) 48 v ∧ W.ownsRow m 52 1 v O.length (O.map fun x => ptrV x.1)
  blk : ∀ x ∈ O, m + 5 ≤ x.1 ∧ W.heap[x.1]? = some (.cells (paR x.2).toArray 39 (0, 0))
  nd : (O.map (·.1)).Nodup
  mp : W.ownsMap Try.prog 9 ptrElem (m + 1) k (pD O)
  sz : m + 5 ≤ W.heap.size
section
variable {m k : Nat} {s : Int} {vl : Value} {O : List (Nat × Pa)} {W W' : World} {row : Option Nat}
theorem cells_kept {b : Nat} {cs : Array Value} {t : TypeId} (h : W.heap[b]? = some (.cells cs t (0, 0))) (hg : W.grownBy W' row) (hr : ∀ r, row = some r → ∃ o : Obj, W.heap[r]? = some o ∧ o.isCells = false) : W'.heap[b]? = some (.cells cs t (0, 0)) :=
  (hg.block b (Array.getElem?_eq_some_iff.1 h).1 (fun e => by obtain ⟨o, ho, hc⟩ := hr _ e.symm; rw [h] at ho; cases ho; cases hc)).trans h
theorem own_kept {B E z n : Nat} {v : Value} {xs : List Value} (h : W.ownsRow B E z v n xs) (hg : W.grownBy W' row) (hr : ∀ r, row = some r → ∃ o : Obj, W.heap[r]? = some o ∧ o.isCells = false) : W'.ownsRow B E z v n xs := by
  refine h.kept hg ?_
  rcases h.2 with ⟨rfl, _⟩ | ⟨g, cap, cur, rfl, _, hgb, _⟩
  · exact .inl rfl
  · refine .inr fun e' => ?_
    obtain ⟨o, ho, hc⟩ := hr g (by simpa [Value.ownBlock] using e'.symm)
    rw [hgb] at ho; cases ho; cases hc
theorem SiI.kept (h : SiI m s vl O k W) (hg : W.grownBy W' row) (hr : ∀ r, row = some r → r ≠ m + 1 ∧ ∃ o : Obj, W.heap[r]? = some o ∧ o.isCells = false) : SiI m s vl O k W' := by
  have hr2 := fun r e => (hr r e).2
  obtain ⟨v, h4, h5⟩ := h.row
  exact ⟨cells_kept h.bs hg hr2, cells_kept h.bm hg hr2, cells_kept h.bB hg hr2, ⟨v, cells_kept h4 hg hr2, own_kept h5 hg hr2⟩, fun x hx => ⟨(h.blk x hx).1, cells_kept (h.blk x hx).2 hg hr2⟩, h.nd,
    h.mp.kept hg (fun e => (hr _ e.symm).1 rfl), Nat.le_trans h.sz hg.size⟩
theorem SiI.alloc (h : SiI m s vl O k W) (o : Obj) : SiI m s vl O k (W.alloc o) := h.kept (World.grownBy_alloc W o none) (fun r e => by cases e)
theorem SiI.more (h : SiI m s vl O k W) : SiI m s vl O (k + 1) W := { h with mp := h.mp.mono (Nat.le_succ k) }
theorem row_apart {v : Value} {B E z n b : Nat} {xs : List Value} {cs : Array Value} {t : TypeId} (h : W.ownsRow B E z v n xs) (hb : W.heap[b]? = some (.cells cs t (0, 0))) (ht : t ≠ E) : v.ownBlock ≠ some b := by
  intro e
  rcases h.2 with ⟨rfl, _⟩ | ⟨g, cap, cur, rfl, _, hgb, _⟩
  · cases e
  · obtain rfl : g = b := by simpa [Value.ownBlock] using e
    rw [hgb] at hb
    simp at hb
    exact ht hb.2.symm
theorem SiI.up (h : SiI m s vl O k W) (e : En) {b : Nat} {p : Pa} (hb : (b, p) ∈ O) (hid : p.1 = e.2.1) (hnd : (O.map (·.2.1)).Nodup) :
    SiI m s vl (upO e O) k (W.setCell ⟨b, 1, none⟩ (.bool (decide (e.2.2 ≠ 1)))) := by
  have hbb := (h.blk _ hb).1
  have ho : ∀ j, j ≠ b → (W.setCell ⟨b, 1, none⟩ (.bool (decide (e.2.2 ≠ 1)))).heap[j]? = W.heap[j]? := fun j hj => Below.heap_setCell _ _ _ _ (by show j ≠ b; exact hj)
  obtain ⟨v, h4, h5⟩ := h.row
  have hvb : v.ownBlock ≠ some b := row_apart h5 (h.blk _ hb).2 (by decide)
  refine ⟨(ho m (by omega)).trans h.bs, (ho _ (by omega)).trans h.bm, (ho _ (by omega)).trans h.bB, ⟨v, (ho _ (by omega)).trans h4, ?_⟩, ?_, ?_, ?_, by simp; exact h.sz⟩
  · have e1 : (upO e O).map (fun x => ptrV x.1) = O.map (fun x => ptrV x.1) := by unfold upO; rw [List.map_map]; rfl
    have e2 : (upO e O).length = O.length := by unfold upO; rw [List.length_map]
    rw [e1, e2]
    exact own_keep h5 fun g hg => ho g (fun e => hvb (by rw [hg, e]))
  · intro x hx
    unfold upO at hx
    obtain ⟨y, hy, rfl⟩ := List.mem_map.1 hx
    refine ⟨(h.blk y hy).1, ?_⟩
    by_cases hyb : y.1 = b
    · obtain ⟨i, hi, hyi⟩ := List.mem_iff_getElem.1 hy
      obtain ⟨j, hj, hbj⟩ := List.mem_iff_getElem.1 hb
      have hij : i = j := by
        rcases Nat.lt_trichotomy i j with c | c | c
        · have := List.pairwise_iff_getElem.1 h.nd i j (by rw [List.length_map]; exact hi) (by rw [List.length_map]; exact hj) c
          rw [List.getElem_map, List.getElem_map, hyi, hbj] at this
          exact absurd hyb this
        · exact c
        · have := List.pairwise_iff_getElem.1 h.nd j i (by rw [List.length_map]; exact hj) (by rw [List.length_map]; exact hi) c
          rw [List.getElem_map, List.getElem_map, hyi, hbj] at this
          exact absurd hyb.symm this
      subst hij
      rw [hyi] at hbj
      subst hbj
      have e3 : upW e p = (p.1, decide (e.2.2 ≠ 1), p.2.2.1, p.2.2.2) := by unfold upW; rw [if_pos hid]
      simp only [e3]
      exact rowSet (by unfold paR; rfl) (h.blk _ hb).2
    · have hne : y.2.1 ≠ e.2.1 := fun k => by
        obtain ⟨i, hi, hyi⟩ := List.mem_iff_getElem.1 hy
        obtain ⟨j, hj, hbj⟩ := List.mem_iff_getElem.1 hb
        have hij : i ≠ j := fun c => by subst c; rw [hyi] at hbj; exact hyb (by rw [hbj])
        have hk2 : y.2.1 = p.1 := by rw [k, hid]
        rcases Nat.lt_or_gt_of_ne hij with c | c
        · have := List.pairwise_iff_getElem.1 hnd i j (by rw [List.length_map]; exact hi) (by rw [List.length_map]; exact hj) c
          rw [List.getElem_map, List.getElem_map, hyi, hbj] at this
          exact this hk2
        · have := List.pairwise_iff_getElem.1 hnd j i (by rw [List.length_map]; exact hj) (by rw [List.length_map]; exact hi) c
          rw [List.getElem_map, List.getElem_map, hyi, hbj] at this
          exact this hk2.symm
      show (W.setCell _ _).heap[y.1]? = some (.cells (paR (upW e y.2)).toArray 39 (0, 0))
      rw [ho _ hyb, show upW e y.2 = y.2 by unfold upW; rw [if_neg hne]]
      exact (h.blk y hy).2
  · have e1 : (upO e O).map (·.1) = O.map (·.1) := by unfold upO; rw [List.map_map]; rfl
    rw [e1]; exact h.nd
  · rw [pD_up]
    exact h.mp.setCell (by show m + 1 ≠ b; omega) _
theorem cells_far {b : Nat} {cs : Array Value} {t : TypeId} {W2 W4 : World} {po tq : Obj} {v : Value} (h : SiI m s vl O k W) (hrow : W.ownsRow m 52 1 v O.length (O.map fun x => ptrV x.1)) (hb : W.heap[b]? = some (.cells cs t (0, 0))) (ht : t ≠ 52)
    (hg2 : (W.alloc po).grownBy W2 (some (m + 1))) (hg4 : (W2.alloc tq).grownBy W4 v.ownBlock) : W4.heap[b]? = some (.cells cs t (0, 0)) := by
  have hlt := (Array.getElem?_eq_some_iff.1 hb).1
  have h1 : (W.alloc po).heap[b]? = some (.cells cs t (0, 0)) := Tr.heapOld hb _
  have hbm : b ≠ m + 1 := by
    intro e
    obtain ⟨es, ck, hm, _⟩ := h.mp
    rw [← e, hb] at hm
    cases hm
  have h2 : W2.heap[b]? = some (.cells cs t (0, 0)) := (hg2.block b (by simp; omega) (fun e => by injection e with e; exact hbm e)).trans h1
  have hs2 : W.heap.size ≤ W2.heap.size := Nat.le_trans (by simp) hg2.size
  have h3 : (W2.alloc tq).heap[b]? = some (.cells cs t (0, 0)) := Tr.heapOld h2 _
  exact (hg4.block b (by simp; omega) (fun e => row_apart hrow hb ht e.symm)).trans h3
theorem SiI.put {W2 W4 : World} {po tq : Obj} {v v4 : Value} (h : SiI m s vl O k W) (e : En) (hv : Boxed W (m + 3) 48 v) (hrow : W.ownsRow m 52 1 v O.length (O.map fun x => ptrV x.1))
    (hpo : po = .cells #[.string (strOf e.2.1), .bool false, .bool (decide (e.2.2 ≠ 3)), .int .i64 e.1] 39 (0, 0))
    (hown2 : W2.ownsMap Try.prog 9 ptrElem (m + 1) (k + 1) ((pD O).put (eK e.2.1) (.lit (.int .i64 (W.heap.size : Int))))) (hg2 : (W.alloc po).grownBy W2 (some (m + 1)))
    (hown4 : W4.ownsRow m 52 1 v4 (O.length + 1) ((O.map fun x => ptrV x.1) ++ [ptrV W.heap.size])) (hg4 : (W2.alloc tq).grownBy W4 v.ownBlock) :
    SiI m s vl (O ++ [(W.heap.size, newP e)]) (k + 1) ((W4.setCell ⟨m + 3, 0, none⟩ v4).setCell ⟨W.heap.size, 1, none⟩ (.bool (decide (e.2.2 ≠ 1)))) ∧ Below m W ((W4.setCell ⟨m + 3, 0, none⟩ v4).setCell ⟨W.heap.size, 1, none⟩ (.bool (decide (e.2.2 ≠ 1)))) := by
  have hsz := h.sz
  have hs1 : (W.alloc po).heap.size = W.heap.size + 1 := by simp
  have hs2 : W.heap.size + 1 ≤ W2.heap.size := by rw [← hs1]; exact hg2.size
  have hs4 : W2.heap.size + 1 ≤ W4.heap.size := Nat.le_trans (by simp) hg4.size
  have far := fun {b : Nat} {cs : Array Value} {t : TypeId} (hb : W.heap[b]? = some (.cells cs t (0, 0))) (ht : t ≠ 52) => cells_far h hrow hb ht hg2 hg4
  have hp1 : (W.alloc po).heap[W.heap.size]? = some (.cells #[.string (strOf e.2.1), .bool false, .bool (decide (e.2.2 ≠ 3)), .int .i64 e.1] 39 (0, 0)) := by rw [hpo]; exact Tr.heapNew W _
  have hp2 := (hg2.block W.heap.size (by rw [hs1]; omega) (fun e => by injection e with e; omega)).trans hp1
  have hvn : v.ownBlock ≠ some W.heap.size := fun e => by have := (hrow.lt _ e).2; omega
  have hp4 := (hg4.block W.heap.size (by simp; omega) (fun e => hvn e.symm)).trans (Tr.heapOld hp2 _)
  have hv4 := far hv (by decide)
  have ho : ∀ j, j ≠ m + 3 → j ≠ W.heap.size → ((W4.setCell ⟨m + 3, 0, none⟩ v4).setCell ⟨W.heap.size, 1, none⟩ (.bool (decide (e.2.2 ≠ 1)))).heap[j]? = W4.heap[j]? := fun j h1 h2 =>
    (Below.heap_setCell _ _ _ _ (by show j ≠ W.heap.size; exact h2)).trans (Below.heap_setCell _ _ _ _ (by show j ≠ m + 3; exact h1))
  have hvm : v.ownBlock ≠ some (m + 1) := fun e => by
    rcases hrow.2 with ⟨rfl, _⟩ | ⟨g, cap, cur, rfl, _, hgb, _⟩
    · cases e
    · obtain rfl : g = m + 1 := by simpa [Value.ownBlock] using e
      obtain ⟨es, ck, hm, _⟩ := h.mp
      rw [hgb] at hm; cases hm
  refine ⟨⟨(ho _ (by omega) (by omega)).trans (far h.bs (by decide)), (ho _ (by omega) (by omega)).trans (far h.bm (by decide)), (ho _ (by omega) (by omega)).trans (far h.bB (by decide)), ⟨v4, ?_, ?_⟩, ?_, ?_, ?_, by simp; omega⟩, ?_⟩
  · refine (Below.heap_setCell _ _ _ _ (by show m + 3 ≠ W.heap.size; omega)).trans ?_
    exact Boxed.set v4 (show Boxed W4 (m + 3) 48 v from hv4)
  · rw [List.length_append, List.map_append]
    exact own_keep hown4 fun g hg => ho g (fun e => row_apart hown4 hv4 (by decide) (by rw [hg, e])) (fun e => row_apart hown4 hp4 (by decide) (by rw [hg, e]))
  · intro x hx
    rcases List.mem_append.1 hx with hx | hx
    · have hb := (h.blk x hx).2
      have hlt := (Array.getElem?_eq_some_iff.1 hb).1
      exact ⟨(h.blk x hx).1, (ho _ (by have := (h.blk x hx).1; omega) (by omega)).trans (far hb (by decide))⟩
    · rw [List.mem_singleton.1 hx]
      refine ⟨hsz, ?_⟩
      have h5 : (W4.setCell ⟨m + 3, 0, none⟩ v4).heap[W.heap.size]? = _ := (Below.heap_setCell _ _ _ _ (by show W.heap.size ≠ m + 3; omega)).trans hp4
      exact rowSet (by unfold paR newP; rfl) h5
  · rw [List.map_append, List.map_cons, List.map_nil, List.nodup_append]
    refine ⟨h.nd, by simp, fun a ha b hb => ?_⟩
    rw [List.mem_singleton] at hb
    subst hb
    obtain ⟨x, hx, rfl⟩ := List.mem_map.1 ha
    have hlt := (Array.getElem?_eq_some_iff.1 (h.blk x hx).2).1
    omega
  · rw [pD_snoc]
    exact (((hown2.alloc _).kept hg4 (fun e => hvm e.symm)).setCell (by show m + 1 ≠ m + 3; omega) _).setCell (by show m + 1 ≠ W.heap.size; omega) _
  · have b1 : Below m W W2 := ((Below.refl m W).alloc (by omega) po).grown hg2 (by simp; omega) (fun k e => by injection e with e; omega)
    have b4 : Below m W W4 := (b1.alloc (by omega) tq).grown hg4 (by simp; omega) (fun k e => (hrow.lt k e).1)
    exact (b4.setCell (p := ⟨m + 3, 0, none⟩) (by show m ≤ m + 3; omega) _).setCell (p := ⟨W.heap.size, 1, none⟩) (by show m ≤ W.heap.size; omega) _
end
section
variable {m k : Nat} {s : Int} {vl : Value} {O : List (Nat × Pa)} {W W2 W4 : World} {po tq : Obj} {v : Value}
theorem row_map (h : SiI m s vl O k W) (hrow : W.ownsRow m 52 1 v O.length (O.map fun x => ptrV x.1)) : v.ownBlock ≠ some (m + 1) := fun e => by
  rcases hrow.2 with ⟨rfl, _⟩ | ⟨g, cap, cur, rfl, _, hgb, _⟩
  · cases e
  · obtain rfl : g = m + 1 := by simpa [Value.ownBlock] using e
    obtain ⟨es, ck, hm, _⟩ := h.mp
    rw [hgb] at hm; cases hm
theorem past_far {cs : Array Value} (h : SiI m s vl O k W) (hrow : W.ownsRow m 52 1 v O.length (O.map fun x => ptrV x.1)) (hpo : po = .cells cs 39 (0, 0))
    (hg2 : (W.alloc po).grownBy W2 (some (m + 1))) (hg4 : (W2.alloc tq).grownBy W4 v.ownBlock) : W4.heap[W.heap.size]? = some (.cells cs 39 (0, 0)) := by
  have hsz := h.sz
  have hs2 : W.heap.size + 1 ≤ W2.heap.size := Nat.le_trans (by simp) hg2.size
  have hp1 : (W.alloc po).heap[W.heap.size]? = some (.cells cs 39 (0, 0)) := by rw [← hpo]; exact Tr.heapNew W _
  have hp2 := (hg2.block W.heap.size (by simp) (fun e => by injection e with e; omega)).trans hp1
  exact (hg4.block W.heap.size (by simp; omega) (fun e => by have := (hrow.lt _ e.symm).2; omega)).trans (Tr.heapOld hp2 _)
theorem put_keeps {n₀ : Nat} {v4 u : Value} {a1 a2 : Addr} (_h : SiI m s vl O k W) (hrow : W.ownsRow m 52 1 v O.length (O.map fun x => ptrV x.1))
    (hg2 : (W.alloc po).grownBy W2 (some (m + 1))) (hg4 : (W2.alloc tq).grownBy W4 v.ownBlock) (hn : m + 1 < n₀ := by omega) : KeepsFrom n₀ W ((W4.setCell a1 v4).setCell a2 u) := by
  have hs2 : W.heap.size + 1 ≤ W2.heap.size := Nat.le_trans (by simp) hg2.size
  have k4 : KeepsFrom n₀ W W4 := ⟨(show W.heap.size ≤ W4.heap.size from Nat.le_trans (show W.heap.size ≤ (W2.alloc tq).heap.size by simp; omega) hg4.size), fun i o hi ho hc => by
    have hlt := (Array.getElem?_eq_some_iff.1 ho).1
    have h2 := (hg2.block i (by simp; omega) (fun e => by injection e with e; omega)).trans (Tr.heapOld ho po)
    refine (hg4.block i (by simp; omega) (fun e => ?_)).trans (Tr.heapOld h2 _)
    rcases hrow.2 with ⟨rfl, _⟩ | ⟨g, cap, cur, rfl, _, hgb, _⟩
    · cases e
    · obtain rfl : g = i := by simpa [Value.ownBlock] using e.symm
      rw [hgb] at ho; cases ho; cases hc⟩
  exact (k4.trans ((KeepsOthers.setCell _ _ _).from _)).trans ((KeepsOthers.setCell _ _ _).from _)
end
structure Pause (p : Prop) : Prop where
  out : p
theorem pause_at {p : Prop} (h : Pause p) : p := h.out
section
variable {F : Fence} {nF : Nat} {P : Program} (w : World) {ops : Array Oper} {rest : List Oper} {o : Oper} {a : Act} {Q : Exit → Act → World → Prop}
theorem ptrElem_nil {v : Value} {ps : List MemPlace} (h : ptrElem v = some (.lit (.int .i64 (-1)), ps)) : v = .pointer none := by
  unfold ptrElem at h
  split at h
  · rfl
  · simp at h
  · cases h
theorem look_ptr (hg : o.guard = none) (mo x : Operand) (t : TypeId) (hop : o.op = Op.lookup t mo x true)
    (k e : TypeId) (K : Go.Maps.Keyed P k) (ht : P.underlying t = some (.map k e)) (hz : (zeroValue e).run P w = .ok (.pointer none) w) (b n : Nat) (D : DataW Unit)
    (hm : a.eval mo = .map (some b)) (hown : w.ownsMap P k ptrElem b n D) (key : Value) (kl : Lit) (hx : a.eval x = key) (hkey : keyOf P k key = some kl) (q : Nat)
    (hat : D.atKey kl (.lit (.int .i64 (-1))) = .lit (.int .i64 (q : Int))) (hh : Maps.has D kl = true)
    (hK : wpListIn F nF P ops Q rest (a.put o.dst (.tuple #[ptrV q, .bool true])) w) : wpListIn F nF P ops Q (o :: rest) a w :=
  Go.wpListIn_lookup_own_ok w hg mo x t hop k e K ht ptrElem hz (.lit (.int .i64 (-1))) [] rfl b n D hm hown key kl hx hkey (fun v ps hv => by
    rw [hat] at hv
    obtain rfl := ptrElem_inv hv
    rw [hh]; exact hK)
theorem look_nil (hg : o.guard = none) (mo x : Operand) (t : TypeId) (hop : o.op = Op.lookup t mo x true)
    (k e : TypeId) (K : Go.Maps.Keyed P k) (ht : P.underlying t = some (.map k e)) (hz : (zeroValue e).run P w = .ok (.pointer none) w) (b n : Nat) (D : DataW Unit)
    (hm : a.eval mo = .map (some b)) (hown : w.ownsMap P k ptrElem b n D) (key : Value) (kl : Lit) (hx : a.eval x = key) (hkey : keyOf P k key = some kl)
    (hh : Maps.has D kl = false)
    (hK : wpListIn F nF P ops Q rest (a.put o.dst (.tuple #[.pointer none, .bool false])) w) : wpListIn F nF P ops Q (o :: rest) a w :=
  Go.wpListIn_lookup_own_ok w hg mo x t hop k e K ht ptrElem hz (.lit (.int .i64 (-1))) [] rfl b n D hm hown key kl hx hkey (fun v ps hv => by
    rw [Go.Maps.atKey_of_not_has hh] at hv
    obtain rfl := ptrElem_nil hv
    rw [hh]; exact hK)
end
end Go.Proofs.Ytfdibmcjjclgkaa.Tl
