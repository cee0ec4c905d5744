import Derived.Test.YtbepnjgbkfidiaaTtN
import Derived.Test.YtbepnjgbkfidiaaTtC
import Derived.Test.YtbepnjgbkfidiaaEmO
/- Sorted values: plain. No run of the program in this text. -/
namespace Go.Proofs.Ytbepnjgbkfidiaa.Tr
open Go.Proofs Go.RowKit Go.Lib Go.Sort
open Go.Proofs.Ytbepnjgbkfidiaa.Utf
open Go.Proofs.Ytbepnjgbkfidiaa.Sc
open Go.Proofs.Ytbepnjgbkfidiaa.Re

mutual
/-- only lists have values, only maps members -/
def oV : V → Prop
  | .mk k _ _ l _ ms => (k ≠ 5 → l = []) ∧ (k ≠ 6 → ms = []) ∧ oL l ∧ oL ms
def oL : List V → Prop
  | [] => True
  | v :: r => oV v ∧ oL r
end
theorem oV_eq (v : V) : oV v ↔ (v.k ≠ 5 → v.l = []) ∧ (v.k ≠ 6 → v.ms = []) ∧ oL v.l ∧ oL v.ms := by cases v; rw [oV]; rfl
theorem oL_mem {v : V} : ∀ {l : List V}, oL l → v ∈ l → oV v
  | [], _, h => by cases h
  | a :: r, h, hv => by
    rw [oL] at h
    rcases List.mem_cons.1 hv with rfl | hv
    · exact h.1
    · exact oL_mem h.2 hv
mutual
/-- the first value is the second one, sorted -/
def Srt : V → V → Prop
  | .mk k n s l ns ms, v => k = v.k ∧ n = v.n ∧ s = v.s ∧ SrtL l v.l ∧ ns.length = ms.length ∧ ns.Pairwise (fun a b => ltN b a = false) ∧ ∃ P : List (List UInt8 × V), P.Perm (v.ns.zip v.ms) ∧ P.map Prod.fst = ns ∧ SrtL ms (P.map Prod.snd)
def SrtL : List V → List V → Prop
  | [], r => r = []
  | x :: t, r => ∃ y u, r = y :: u ∧ Srt x y ∧ SrtL t u
end
theorem SrtL_iff : ∀ l r : List V, SrtL l r ↔ l.length = r.length ∧ ∀ i (h1 : i < l.length) (h2 : i < r.length), Srt l[i] r[i]
  | [], r => by
    rw [SrtL]
    exact ⟨fun e => by subst e; exact ⟨rfl, fun i h => by simp at h⟩, fun h => List.eq_nil_of_length_eq_zero h.1.symm⟩
  | x :: t, r => by
    rw [SrtL]
    constructor
    · rintro ⟨y, u, rfl, h1, h2⟩
      obtain ⟨k1, k2⟩ := (SrtL_iff t u).1 h2
      refine ⟨by simp [k1], fun i i1 i2 => ?_⟩
      cases i with
      | zero => exact h1
      | succ i => exact k2 i (by simpa using i1) (by simpa using i2)
    · rintro ⟨h1, h2⟩
      cases r with
      | nil => simp at h1
      | cons y u => exact ⟨y, u, rfl, h2 0 (by simp) (by simp), (SrtL_iff t u).2 ⟨by simpa using h1, fun i i1 i2 => h2 (i + 1) (by simpa using i1) (by simpa using i2)⟩⟩
theorem Srt_eq (a v : V) : Srt a v ↔ a.k = v.k ∧ a.n = v.n ∧ a.s = v.s ∧ SrtL a.l v.l ∧ a.ns.length = a.ms.length ∧ a.ns.Pairwise (fun a b => ltN b a = false) ∧ ∃ P : List (List UInt8 × V), P.Perm (v.ns.zip v.ms) ∧ P.map Prod.fst = a.ns ∧ SrtL a.ms (P.map Prod.snd) := by
  cases a; rw [Srt]; rfl

/-! ### memory that is changed in some blocks alone -/
structure ChgF (F : List Nat) (w w' : World) : Prop where
  os : w'.os = w.os
  tape : w'.tape = w.tape
  output : w'.output = w.output
  size : w.heap.size ≤ w'.heap.size
  block : ∀ k, k < w.heap.size → k ∉ F → w'.heap[k]? = w.heap[k]?
theorem ChgF.refl (F : List Nat) (w : World) : ChgF F w w := ⟨rfl, rfl, rfl, Nat.le_refl _, fun _ _ _ => rfl⟩
theorem ChgF.trans {F : List Nat} {w w1 w2 : World} (h : ChgF F w w1) (k : ChgF F w1 w2) : ChgF F w w2 :=
  ⟨k.os.trans h.os, k.tape.trans h.tape, k.output.trans h.output, Nat.le_trans h.size k.size, fun i h1 h2 => (k.block i (Nat.lt_of_lt_of_le h1 h.size) h2).trans (h.block i h1 h2)⟩
theorem ChgF.more {F G : List Nat} {w w' : World} (h : ChgF F w w') (hs : ∀ x, x ∈ F → x ∈ G) : ChgF G w w' := ⟨h.os, h.tape, h.output, h.size, fun k h1 h2 => h.block k h1 fun h3 => h2 (hs k h3)⟩
theorem ChgF.of {F : List Nat} {w w' : World} (h : Below w.heap.size w w') : ChgF F w w' := ⟨h.os, h.tape, h.output, h.size, fun k hk _ => h.block k hk⟩
theorem ChgF.below {F : List Nat} {B : Nat} {w w' : World} (h : ChgF F w w') (hB : B ≤ w.heap.size) (hF : ∀ x ∈ F, B ≤ x) : Below B w w' := ⟨h.os, h.tape, h.output, h.size, fun k hk => h.block k (by omega) fun hx => by have := hF k hx; omega⟩

/-- values at places of block g, each with its blocks -/
structure It (s o0 g : Nat) (lc : List V) (Gs : List (List Nat)) (w : World) : Prop where
  len : Gs.length = lc.length
  at_ : ∀ i (h1 : i < lc.length) (h2 : i < Gs.length), ∃ cs, CellsAt w g (i * s + o0) cs ∧ RdF w lc[i] cs Gs[i]
  nod : (g :: Gs.flatten).Nodup
  lt : ∀ x ∈ g :: Gs.flatten, x < w.heap.size
theorem set_flatten_perm : ∀ (Gs : List (List Nat)) (j : Nat) (G : List Nat) (_hj : j < Gs.length), G.Perm Gs[j] → (Gs.set j G).flatten.Perm Gs.flatten
  | [], _, _, hj, _ => by simp at hj
  | a :: r, 0, G, _, h => by
    simp only [List.set_cons_zero, List.flatten_cons]
    exact h.append_right _
  | a :: r, j + 1, G, hj, h => by
    simp only [List.set_cons_succ, List.flatten_cons]
    exact (set_flatten_perm r j G (by simpa using hj) (by simpa using h)).append_left _
theorem mem_flat {Gs : List (List Nat)} {i : Nat} (hi : i < Gs.length) {x : Nat} (hx : x ∈ Gs[i]) : x ∈ Gs.flatten := List.mem_flatten.2 ⟨_, List.getElem_mem hi, hx⟩
theorem flat_apart : ∀ {Gs : List (List Nat)} (i j : Nat) (hi : i < Gs.length) (hj : j < Gs.length), Gs.flatten.Nodup → i ≠ j → ∀ x, x ∈ Gs[i] → x ∈ Gs[j] → False
  | [], i, _, hi, _, _, _, _, _, _ => by simp at hi
  | a :: r, i, j, hi, hj, hn, hne, x, hx, hy => by
    rw [List.flatten_cons, List.nodup_append] at hn
    cases i with
    | zero =>
      cases j with
      | zero => exact hne rfl
      | succ j => exact hn.2.2 x (by simpa using hx) x (mem_flat (by simpa using hj) (by simpa using hy)) rfl
    | succ i =>
      cases j with
      | zero => exact hn.2.2 x (by simpa using hy) x (mem_flat (by simpa using hi) (by simpa using hx)) rfl
      | succ j => exact flat_apart i j (by simpa using hi) (by simpa using hj) hn.2.1 (by omega) x (by simpa using hx) (by simpa using hy)
theorem It.step {s o0 g j : Nat} {lc : List V} {Gs : List (List Nat)} {w w' : World} (h : It s o0 g lc Gs w) (_hj : j < lc.length) (hjg : j < Gs.length) {v' : V} {G' : List Nat} {cs : List Value} (hc : ChgF Gs[j] w w')
    (hcs : CellsAt w g (j * s + o0) cs) (hr : RdF w' v' cs G') (hp : G'.Perm Gs[j]) : It s o0 g (lc.set j v') (Gs.set j G') w' := by
  have hn := h.nod
  rw [List.nodup_cons] at hn
  have hg : w'.heap[g]? = w.heap[g]? := hc.block g (h.lt g (by simp)) fun hx => hn.1 (mem_flat hjg hx)
  have hpf := set_flatten_perm Gs j G' hjg hp
  refine ⟨by simp [h.len], fun i h1 h2 => ?_, ?_, fun x hx => ?_⟩
  · by_cases e : j = i
    · subst e
      simp only [List.getElem_set_self]
      exact ⟨cs, hcs.keep hg, hr⟩
    · simp only [List.getElem_set_ne e]
      have i1 : i < lc.length := by simpa using h1
      have i2 : i < Gs.length := by simpa using h2
      obtain ⟨c, p1, p2⟩ := h.at_ i i1 i2
      exact ⟨c, p1.keep hg, RdF.keep _ _ _ (fun k hk => hc.block k (h.lt k (by simp; right; exact ⟨_, List.getElem_mem i2, hk⟩)) fun hx => flat_apart i j i2 hjg hn.2 (fun q => e q.symm) k hk hx) p2⟩
  · rw [List.nodup_cons]
    exact ⟨fun hx => hn.1 (hpf.mem_iff.1 hx), hpf.nodup_iff.2 hn.2⟩
  · have := h.lt x (by
      rcases List.mem_cons.1 hx with rfl | hx
      · simp
      · exact List.mem_cons_of_mem _ (hpf.mem_iff.1 hx))
    exact Nat.lt_of_lt_of_le this hc.size
theorem It.keep {s o0 g : Nat} {lc : List V} {Gs : List (List Nat)} {w w' : World} (h : It s o0 g lc Gs w) (hb : Below w.heap.size w w') : It s o0 g lc Gs w' where
  len := h.len
  at_ := fun i h1 h2 => by
    obtain ⟨c, p1, p2⟩ := h.at_ i h1 h2
    exact ⟨c, p1.keep (hb.block g (h.lt g (by simp))), RdF.keep _ _ _ (fun k hk => hb.block k (h.lt k (List.mem_cons_of_mem _ (mem_flat h2 hk)))) p2⟩
  nod := h.nod
  lt := fun x hx => Nat.lt_of_lt_of_le (h.lt x hx) hb.size
/-- a permutation of what things are mapped to comes of one of the things -/
theorem perm_lift {α β : Type} (f : α → β) : ∀ {l' l : List β}, l'.Perm l → ∀ t : List α, t.map f = l → ∃ t' : List α, t'.Perm t ∧ t'.map f = l' := by
  intro l' l h
  induction h with
  | nil => intro t ht; exact ⟨t, List.Perm.refl _, ht⟩
  | cons x _ ih =>
    intro t ht
    cases t with
    | nil => simp at ht
    | cons a r =>
      simp only [List.map_cons, List.cons.injEq] at ht
      obtain ⟨t', p, e⟩ := ih r ht.2
      exact ⟨a :: t', p.cons a, by simp [e, ht.1]⟩
  | swap x y l =>
    intro t ht
    match t, ht with
    | a :: b :: r, ht =>
      simp only [List.map_cons, List.cons.injEq] at ht
      exact ⟨b :: a :: r, List.Perm.swap _ _ _, by simp [ht.1, ht.2.1, ht.2.2]⟩
  | trans _ _ ih1 ih2 =>
    intro t ht
    obtain ⟨t1, p1, e1⟩ := ih2 t ht
    obtain ⟨t2, p2, e2⟩ := ih1 t1 e1
    exact ⟨t2, p2.trans p1, e2⟩
end Go.Proofs.Ytbepnjgbkfidiaa.Tr
/- A row of members sorted in its place. No run of the program in this text. -/
namespace Go.Proofs.Ytbepnjgbkfidiaa.Tr
open Go.Proofs Go.RowKit Go.Lib Go.Sort
open Go.Proofs.Ytbepnjgbkfidiaa.Utf
open Go.Proofs.Ytbepnjgbkfidiaa.Sc
open Go.Proofs.Ytbepnjgbkfidiaa.Re

theorem swk_chg {w0 W : World} {blk off : Nat} {d : Array M6} (S : SWK encM 6 w0 blk off d W) : ChgF [blk] w0 W := by
  obtain ⟨n, os, rfl⟩ := S
  refine ⟨rfl, rfl, rfl, ?_, fun k hk hne => ?_⟩
  · unfold sortWorldK
    rw [size_grow, size_putRowK]
    show w0.heap.size ≤ w0.heap.size + _
    omega
  · have hb : k ≠ blk := fun e => hne (by simp [e])
    unfold sortWorldK
    rw [heap_grow_old _ _ (by rw [size_putRowK]; exact hk)]
    show ((Sort.ahead w0 n).heap.modify blk _)[k]? = _
    rw [Array.getElem?_modify, if_neg (fun e => hb e.symm)]
    rfl
theorem holds_of {w : World} {g : Nat} {d : Array M6} (h : ∀ i, i < d.size → CellsAt w g (i * 6) (encM d[i]!)) : HoldsK encM 6 w g 0 d := by
  intro j hj
  rw [size_flatK] at hj
  have hk : j / 6 < d.size := by omega
  have e : j = j / 6 * 6 + j % 6 := by omega
  have hm : j % 6 < 6 := by omega
  have hc := h (j / 6) hk (j % 6) ((encM d[j / 6]!)[j % 6]!) (by
    have hl : j % 6 < (encM d[j / 6]!).length := by rw [encM_len]; exact hm
    rw [getElem!_pos (encM d[j / 6]!) (j % 6) hl]
    exact List.getElem?_eq_getElem hl)
  rw [get_flatK _ _ _ _ hj, Nat.zero_add]
  rw [← e] at hc
  exact hc
theorem cells_of6 {W : World} {b o : Nat} {x : M6} (h : C6 W b o x) : CellsAt W b o (encM x) := by
  obtain ⟨⟨a0, a1, a2, a3, a4, a5⟩, ⟨f0, f1, f2, f3, f4, f5⟩⟩ := h
  intro j u hu
  have hj : j < 6 := by have := (List.getElem?_eq_some_iff.1 hu).1; rwa [encM_len] at this
  have hjj : j = 0 ∨ j = 1 ∨ j = 2 ∨ j = 3 ∨ j = 4 ∨ j = 5 := by omega
  rcases hjj with rfl | rfl | rfl | rfl | rfl | rfl <;> injection hu with hu <;> subst hu
  · exact ⟨a0, f0⟩
  · exact ⟨a1, f1⟩
  · exact ⟨a2, f2⟩
  · exact ⟨a3, f3⟩
  · exact ⟨a4, f4⟩
  · exact ⟨a5, f5⟩
/-- members of a block of their own, as a row: each its cells, its value and its blocks -/
theorem row_of {w : World} {g : Nat} : ∀ (ms : List V) (ns : List (List UInt8)) (F : List Nat) (i : Nat), RdFM w g i ns ms F → ns.length = ms.length → ∃ T : List (M6 × V × List Nat), T.map (fun t => t.2.1) = ms ∧ T.map (fun t => t.1.nm) = ns ∧ (T.map (fun t => t.2.2)).flatten = F ∧
    (∀ j (h : j < T.length), CellsAt w g ((i + j) * 6) (encM T[j].1)) ∧ (∀ t ∈ T, RdF w t.2.1 (m6tail t.1) t.2.2)
  | [], ns, F, i, h, hn => by rw [RdFM] at h; exact ⟨[], rfl, by rw [List.eq_nil_of_length_eq_zero hn]; rfl, by rw [h]; rfl, fun j h => by simp at h, fun t h => by cases h⟩
  | v :: r, ns, F, i, h, hn => by
    rw [RdFM] at h
    obtain ⟨nm, ns', cs, F1, F2, rfl, rfl, h1, h2, h3⟩ := h
    obtain ⟨T, t1, t2, t3, t4, t5⟩ := row_of r ns' F2 (i + 1) h3 (by simpa using hn)
    obtain ⟨A, c, A2, c2, _, _, rfl, _⟩ := h2.cells
    refine ⟨(⟨nm, v.k, v.n, strOf v.s, A, v.l.length, c, A2, v.ms.length, c2⟩, v, F1) :: T, by simp [t1], by simp [t2], by simp [t3], fun j hj => ?_, fun t ht => ?_⟩
    · cases j with
      | zero => exact (show CellsAt w g ((i + 0) * 6) _ from h1)
      | succ j =>
        have := t4 j (by simpa using hj)
        rw [show i + 1 + j = i + (j + 1) by omega] at this
        exact this
    · rcases List.mem_cons.1 ht with rfl | ht
      · exact h2
      · exact t5 t ht
theorem swo_pairs {d : Array M6} {n : Nat} (hn : d.size = n) (h : SortedIn (ltOf cfM) 0 n d) : (d.toList.map M6.nm).Pairwise (fun a b => ltN b a = false) := by
  rw [List.pairwise_iff_getElem]
  intro i j hi hj hij
  have hi' : i < d.size := by simpa using hi
  have hj' : j < d.size := by simpa using hj
  have := h i j (Nat.zero_le _) hij (by omega)
  rw [getElem!_pos d i hi', getElem!_pos d j hj', ltM_eq] at this
  simpa using this
/-- behind the sort: the members permuted, where they stood -/
theorem sorted_row {w0 W : World} {g : Nat} {T : List (M6 × V × List Nat)} {d' : Array M6} (hT : ∀ j (h : j < T.length), CellsAt w0 g (j * 6) (encM T[j].1)) (hv : ∀ t ∈ T, RdF w0 t.2.1 (m6tail t.1) t.2.2) (hnod : (g :: (T.map (fun t => t.2.2)).flatten).Nodup) (hlt : ∀ x ∈ g :: (T.map (fun t => t.2.2)).flatten, x < w0.heap.size)
    (S : SWK encM 6 w0 g 0 d' W) (R : RowK encM 6 w0 g 0 (T.map Prod.fst).toArray) (hp : PermIn 0 T.length (T.map Prod.fst).toArray d') (hs : SortedIn (ltOf cfM) 0 T.length d') :
    ∃ T' : List (M6 × V × List Nat), T'.Perm T ∧ (T'.map (fun t => t.1.nm)).Pairwise (fun a b => ltN b a = false) ∧ It 6 1 g (T'.map (fun t => t.2.1)) (T'.map (fun t => t.2.2)) W ∧ NmAt g (T'.map (fun t => t.1.nm)) W := by
  have hsz : d'.size = T.length := by have := hp.1; simpa using this
  have hperm : d'.toList.Perm (T.map Prod.fst) := by
    have h3 := hp.2.2
    have e1 : (d'.extract 0 T.length).toList = d'.toList := by rw [← hsz]; simp
    have e2 : ((T.map Prod.fst).toArray.extract 0 T.length).toList = T.map Prod.fst := by
      simp only [List.extract_toArray, List.extract_eq_take_drop, List.drop_zero, Nat.sub_zero]
      exact List.take_of_length_le (by simp)
    rw [e1, e2] at h3
    exact h3
  obtain ⟨T', p1, p2⟩ := perm_lift Prod.fst hperm T rfl
  have hlen : T'.length = T.length := p1.length_eq
  have hch := swk_chg S
  have hfl : (T'.map (fun t => t.2.2)).flatten.Perm (T.map (fun t => t.2.2)).flatten := (p1.map _).flatten
  have hnd := hnod
  rw [List.nodup_cons] at hnd
  have hcell : ∀ j (h : j < T'.length), CellsAt W g (j * 6) (encM T'[j].1) := fun j h => by
    have hjd : j < d'.size := by omega
    have := cells_of6 (cells6 S R (by simp [hsz]) j hjd)
    rw [Nat.zero_add] at this
    have e : d'[j]! = T'[j].1 := by
      rw [getElem!_pos d' j hjd]
      have q : d'.toList[j]? = (T'.map Prod.fst)[j]? := by rw [p2]
      rw [List.getElem?_eq_getElem (by simpa using hjd), List.getElem?_map, List.getElem?_eq_getElem h] at q
      simpa using q
    rw [e] at this
    exact this
  have hval : ∀ t ∈ T', RdF W t.2.1 (m6tail t.1) t.2.2 := fun t ht => by
    have ht' := p1.mem_iff.1 ht
    exact RdF.keep _ _ _ (fun k hk => hch.block k (hlt k (List.mem_cons_of_mem _ (List.mem_flatten.2 ⟨_, List.mem_map.2 ⟨t, ht', rfl⟩, hk⟩))) fun hx => by
      rw [List.mem_singleton] at hx
      subst hx
      exact hnd.1 (List.mem_flatten.2 ⟨_, List.mem_map.2 ⟨t, ht', rfl⟩, hk⟩)) (hv t ht')
  refine ⟨T', p1, ?_, ⟨by simp, fun i h1 h2 => ?_, ?_, fun x hx => ?_⟩, fun j hj => ?_⟩
  · have := swo_pairs hsz hs
    rw [← p2, List.map_map] at this
    exact this
  · have hi : i < T'.length := by simpa using h1
    refine ⟨m6tail T'[i].1, (cells_cons.1 (show CellsAt W g (i * 6) (.string (strOf T'[i].1.nm) :: m6tail T'[i].1) from hcell i hi)).2, ?_⟩
    simp only [List.getElem_map]
    exact hval _ (List.getElem_mem hi)
  · rw [List.nodup_cons]
    exact ⟨fun hx => hnd.1 (hfl.mem_iff.1 hx), hfl.nodup_iff.2 hnd.2⟩
  · refine Nat.lt_of_lt_of_le (hlt x ?_) hch.size
    rcases List.mem_cons.1 hx with rfl | hx
    · simp
    · exact List.mem_cons_of_mem _ (hfl.mem_iff.1 hx)
  · have hj' : j < T'.length := by simpa using hj
    have := (cells_cons.1 (show CellsAt W g (j * 6) (.string (strOf T'[j].1.nm) :: m6tail T'[j].1) from hcell j hj')).1
    simp only [List.getElem_map]
    exact this
end Go.Proofs.Ytbepnjgbkfidiaa.Tr
/- Contract of order. Written by tools/genTrR.py. -/
namespace Go.Proofs.Ytbepnjgbkfidiaa.Tr
open Go.Proofs Go.RowKit Go.Lib Go.Sort
open Go.Proofs.Ytbepnjgbkfidiaa.Utf
open Go.Proofs.Ytbepnjgbkfidiaa.Sc
open Go.Proofs.Ytbepnjgbkfidiaa.Re

def GivesOrd (v : V) (cs : List Value) (F : List Nat) (w : World) (e : Ending) (w' : World) : Prop :=
  e = .returned (.tuple #[]) ∧ ∃ (v' : V) (F' : List Nat), Srt v' v ∧ RdF w' v' cs F' ∧ F'.Perm F ∧ ChgF F w w'
def OrdCon (v : V) : Prop := ∀ (cs : List Value) (F : List Nat) (w : World), RdF w v cs F → F.Nodup → (∀ x ∈ F, x < w.heap.size) → Calls Try.prog 31 #[.agg cs.toArray] w (GivesOrd v cs F w)
theorem nodup_part : ∀ (Gs : List (List Nat)), Gs.flatten.Nodup → ∀ j (h : j < Gs.length), Gs[j].Nodup
  | [], _, j, h => by simp at h
  | a :: r, hn, j, h => by
    rw [List.flatten_cons, List.nodup_append] at hn
    cases j with
    | zero => exact hn.1
    | succ j => exact nodup_part r hn.2.1 j (by simpa using h)
/-- a loop that puts values in order where they stand: the first j are -/
def OLp (s o0 : Nat) (B : Option Addr) (l : List V) (F : List Nat) (j : Nat) (lc : List V) (Gs : List (List Nat)) (w : World) : Prop :=
  lc.length = l.length ∧ (∀ i (h1 : i < lc.length) (h2 : i < l.length), i < j → Srt lc[i] l[i]) ∧ (∀ i (h1 : i < lc.length) (h2 : i < l.length), j ≤ i → lc[i] = l[i]) ∧
  ((l.length = 0 ∧ Gs = [] ∧ F = []) ∨ ∃ g, 0 < l.length ∧ B = some ⟨g, 0, none⟩ ∧ It s o0 g lc Gs w ∧ (g :: Gs.flatten).Perm F)
theorem OLp.end_ {s o0 : Nat} {B : Option Addr} {l : List V} {F : List Nat} {lc : List V} {Gs : List (List Nat)} {w : World} (h : OLp s o0 B l F l.length lc Gs w) : SrtL lc l :=
  (SrtL_iff lc l).2 ⟨h.1, fun i h1 h2 => h.2.1 i h1 h2 h2⟩
theorem OLp.step {s o0 g j : Nat} {l : List V} {F : List Nat} {lc : List V} {Gs : List (List Nat)} {w w' : World} (h : OLp s o0 (some ⟨g, 0, none⟩) l F j lc Gs w) (hI : It s o0 g lc Gs w) (hP : (g :: Gs.flatten).Perm F) (hl : 0 < l.length) (hj : j < lc.length) (hjg : j < Gs.length) (hjl : j < l.length) {v' : V} {G' : List Nat} {cs : List Value} (hc : ChgF Gs[j] w w')
    (hcs : CellsAt w g (j * s + o0) cs) (hr : RdF w' v' cs G') (hp : G'.Perm Gs[j]) (hs : Srt v' l[j]) : OLp s o0 (some ⟨g, 0, none⟩) l F (j + 1) (lc.set j v') (Gs.set j G') w' := by
  refine ⟨by simp [h.1], fun i h1 h2 hij => ?_, fun i h1 h2 hij => ?_, .inr ⟨g, hl, rfl, It.step hI hj hjg hc hcs hr hp, ?_⟩⟩
  · by_cases e : j = i
    · subst e; simp only [List.getElem_set_self]; exact hs
    · simp only [List.getElem_set_ne e]; exact h.2.1 i (by simpa using h1) h2 (by omega)
  · have e : j ≠ i := by omega
    simp only [List.getElem_set_ne e]
    exact h.2.2.1 i (by simpa using h1) h2 (by omega)
  · exact ((set_flatten_perm Gs j G' hjg hp).cons g).trans hP
theorem OLp.keep {s o0 : Nat} {B : Option Addr} {l : List V} {F : List Nat} {j : Nat} {lc : List V} {Gs : List (List Nat)} {w w' : World} (h : OLp s o0 B l F j lc Gs w) (hb : Below w.heap.size w w') : OLp s o0 B l F j lc Gs w' := by
  obtain ⟨h1, h2, h3, h4⟩ := h
  refine ⟨h1, h2, h3, ?_⟩
  rcases h4 with h4 | ⟨g, p1, p2, p3, p4⟩
  · exact .inl h4
  · exact .inr ⟨g, p1, p2, p3.keep hb, p4⟩
/-- what a value's list is at first -/
theorem OLp.start5 {w : World} {A : Option Addr} {l : List V} {F : List Nat} (hF : (l.length = 0 ∧ F = []) ∨ ∃ g T, 0 < l.length ∧ A = some ⟨g, 0, none⟩ ∧ F = g :: T ∧ RdFL w g 0 l T) (hn : F.Nodup) (hlt : ∀ x ∈ F, x < w.heap.size) : ∃ Gs, OLp 5 0 A l F 0 l Gs w := by
  rcases hF with ⟨h, rfl⟩ | ⟨g, T, h0, e, rfl, hr⟩
  · exact ⟨[], rfl, fun i _ _ h => by omega, fun i _ _ _ => rfl, .inl ⟨h, rfl, rfl⟩⟩
  · obtain ⟨Fs, f1, rfl, f3⟩ := RdFL.items l T 0 hr
    exact ⟨Fs, rfl, fun i _ _ h => by omega, fun i _ _ _ => rfl, .inr ⟨g, h0, e, ⟨f1, fun i h1 h2 => by
      have := f3 i h1 h2
      rw [Nat.zero_add] at this
      exact this, hn, hlt⟩, List.Perm.refl _⟩⟩
/-- the sort of a value's members, where they stand -/
def SortPost (B : Option Addr) (ns : List (List UInt8)) (ms : List V) (F : List Nat) (w : World) (e : Ending) (w' : World) : Prop :=
  e = .returned (.tuple #[]) ∧ ∃ (ns1 : List (List UInt8)) (ms1 : List V) (Gs : List (List Nat)), ns1.length = ms.length ∧ ns1.Pairwise (fun a b => ltN b a = false) ∧ (ns1.zip ms1).Perm (ns.zip ms) ∧ ms1.length = ms.length ∧ OLp 6 1 B ms1 F 0 ms1 Gs w' ∧ (∀ g, B = some ⟨g, 0, none⟩ → 0 < ms.length → NmAt g ns1 w') ∧ ChgF F w w'
theorem sort_call (B : Option Addr) (c : Nat) (ns : List (List UInt8)) (ms : List V) (F : List Nat) (w : World) (hn : ns.length = ms.length) (hsz : ms.length < 1152921504606846976)
    (hF : (ms.length = 0 ∧ F = []) ∨ ∃ g T, 0 < ms.length ∧ B = some ⟨g, 0, none⟩ ∧ F = g :: T ∧ RdFM w g 0 ns ms T) (hnd : F.Nodup) (hlt : ∀ x ∈ F, x < w.heap.size) :
    Calls Try.prog 41 #[.slice B ms.length c, .func (.func 42) #[] #[]] w (SortPost B ns ms F w) := by
  rcases hF with ⟨h, rfl⟩ | ⟨g, T, h0, e, rfl, hr⟩
  · rw [h]
    refine (SortStable_none B c _ w).mono ?_
    rintro e w' ⟨rfl, rfl⟩
    have e1 : ms = [] := List.eq_nil_of_length_eq_zero h
    subst e1
    have e2 : ns = [] := List.eq_nil_of_length_eq_zero hn
    subst e2
    exact ⟨rfl, [], [], [], rfl, List.Pairwise.nil, List.Perm.refl _, rfl, ⟨rfl, (fun i h => by simp at h), (fun i h => by simp at h), .inl ⟨rfl, rfl, rfl⟩⟩, (fun g _ h => by simp at h), ChgF.refl _ _⟩
  · subst e
    obtain ⟨R, r1, r2, r3, r4, r5⟩ := row_of ms ns T 0 hr hn
    have hRl : R.length = ms.length := by rw [← r1]; simp
    subst r3
    have hrow : RowK encM 6 w g 0 (R.map Prod.fst).toArray := ⟨encM_len, encM_one, holds_of fun i hi => by
      have hi' : i < R.length := by simpa using hi
      have := r4 i hi'
      rw [Nat.zero_add] at this
      rw [getElem!_pos _ i hi]
      simpa using this, hlt g (by simp)⟩
    have hd : (R.map Prod.fst).toArray.size = ms.length := by simp [hRl]
    refine (SortStable_any g 0 c ms.length (R.map Prod.fst).toArray w hrow hd hsz).mono ?_
    rintro e w' ⟨rfl, d', hS, hP, hT⟩
    rw [← hRl] at hP hT
    obtain ⟨R', p1, p2, p3, p4⟩ := sorted_row (fun j h => by have := r4 j h; rw [Nat.zero_add] at this; exact this) r5 hnd hlt hS hrow hP hT
    have hfl : (R'.map (fun t => t.2.2)).flatten.Perm (R.map (fun t => t.2.2)).flatten := (p1.map _).flatten
    have hRl' : R'.length = ms.length := by rw [p1.length_eq, hRl]
    refine ⟨rfl, R'.map (fun t => t.1.nm), R'.map (fun t => t.2.1), R'.map (fun t => t.2.2), by simp [hRl'], p2, ?_, by simp [hRl'], ⟨rfl, (fun i _ _ h => by omega), (fun i _ _ _ => rfl), .inr ⟨g, by simp [hRl']; omega, rfl, p3, hfl.cons g⟩⟩, fun g' e _ => ?_, (swk_chg hS).more (fun x hx => by
      rw [List.mem_singleton] at hx
      subst hx
      simp)⟩
    · rw [List.zip_map', ← r1, ← r2, List.zip_map']
      exact p1.map _
    · injection e with e
      injection e with e
      subst e
      exact p4

theorem order_end {w w1 w2 w3 wr : World} {v : V} {k n : Int} {S : ByteArray} {n1 n2 c1 c2 j1 j2 : Nat} {A1 A2 B1 B2 : Option Addr} {FL FM : List Nat} {lc mc : List V} {Gl Gm : List (List Nat)} {ns1 : List (List UInt8)} {ms1 : List V}
    (hl : v.l.length = n1) (hm : v.ms.length = n2) (hk : v.k = k) (hn : v.n = n) (hS : strOf v.s = S) (hb1 : Below w.heap.size w w1) (hnd : FL.Nodup ∧ FM.Nodup ∧ ∀ a ∈ FL, ∀ b ∈ FM, a ≠ b) (hlt : ∀ x ∈ FL ++ FM, x < w.heap.size)
    (hB1 : 0 < n1 → B1 = A1) (hB2 : 0 < n2 → B2 = A2) (hc2 : ChgF FM w1 w2) (hc3 : ChgF FL w2 w3) (hc4 : ChgF FM w3 wr) (hO1 : OLp 5 0 B1 v.l FL j1 lc Gl w3) (hO2 : OLp 6 1 B2 ms1 FM j2 mc Gm wr) (hs2 : SrtL mc ms1) (hs1 : SrtL lc v.l) (_hnn : v.ns.length = v.ms.length)
    (hnl : ns1.length = v.ms.length) (hns : ns1.Pairwise (fun a b => ltN b a = false)) (hnp : (ns1.zip ms1).Perm (v.ns.zip v.ms)) (hml : ms1.length = v.ms.length) (hNm : ∀ g, B2 = some ⟨g, 0, none⟩ → 0 < n2 → NmAt g ns1 wr) :
    ∃ (v' : V) (F' : List Nat), Srt v' v ∧ RdF wr v' [.int .i64 k, .int .i64 n, .string S, .slice A1 n1 c1, .slice A2 n2 c2] F' ∧ F'.Perm (FL ++ FM) ∧ ChgF (FL ++ FM) w wr := by
  have hch : ChgF (FL ++ FM) w wr := (((show ChgF (FL ++ FM) w w1 from ChgF.of hb1).trans (hc2.more fun x hx => by simp [hx])).trans (hc3.more fun x hx => by simp [hx])).trans (hc4.more fun x hx => by simp [hx])
  have hlc : lc.length = n1 := hO1.1.trans hl
  have hmc : mc.length = n2 := (hO2.1.trans hml).trans hm
  have keep3 : ∀ x ∈ FL, wr.heap[x]? = w3.heap[x]? := fun x hx => hc4.block x (by
    have := hlt x (by simp [hx])
    have := hb1.size
    have := hc2.size
    have := hc3.size
    omega) (fun hy => hnd.2.2 x hx x hy rfl)
  have PL : ∃ F1 : List Nat, ((lc.length = 0 ∧ F1 = []) ∨ ∃ g T, 0 < lc.length ∧ A1 = some ⟨g, 0, none⟩ ∧ F1 = g :: T ∧ RdFL wr g 0 lc T) ∧ F1.Perm FL := by
    rcases hO1.2.2.2 with ⟨h, -, rfl⟩ | ⟨g, h0, e, hI, hP⟩
    · exact ⟨[], .inl ⟨by omega, rfl⟩, List.Perm.refl _⟩
    · refine ⟨g :: Gl.flatten, .inr ⟨g, _, by omega, (hB1 (by omega)).symm.trans e, rfl, RdFL.of_items lc Gl 0 hI.len fun j h1 h2 => ?_⟩, hP⟩
      obtain ⟨cc, u1, u2⟩ := hI.at_ j h1 h2
      rw [Nat.zero_add]
      exact ⟨cc, u1.keep (keep3 g (hP.mem_iff.1 (by simp))), RdF.keep _ _ _ (fun x hx => keep3 x (hP.mem_iff.1 (List.mem_cons_of_mem _ (mem_flat h2 hx)))) u2⟩
  have PM : ∃ F2 : List Nat, ((mc.length = 0 ∧ F2 = []) ∨ ∃ g T, 0 < mc.length ∧ A2 = some ⟨g, 0, none⟩ ∧ F2 = g :: T ∧ RdFM wr g 0 ns1 mc T) ∧ F2.Perm FM := by
    rcases hO2.2.2.2 with ⟨h, -, rfl⟩ | ⟨g, h0, e, hI, hP⟩
    · exact ⟨[], .inl ⟨by omega, rfl⟩, List.Perm.refl _⟩
    · refine ⟨g :: Gm.flatten, .inr ⟨g, _, by omega, (hB2 (by omega)).symm.trans e, rfl, RdFM.of_items mc ns1 Gm 0 hI.len (by omega) fun j h1 h2 h3 => ?_⟩, hP⟩
      obtain ⟨cc, u1, u2⟩ := hI.at_ j h1 h2
      rw [Nat.zero_add]
      exact ⟨cc, cells_cons.2 ⟨hNm g e (by omega) j h3, u1⟩, u2⟩
  obtain ⟨F1, l1, l2⟩ := PL
  obtain ⟨F2, m1, m2⟩ := PM
  refine ⟨.mk v.k v.n v.s lc ns1 mc, F1 ++ F2, ?_, ?_, l2.append m2, hch⟩
  · rw [Srt]
    refine ⟨rfl, rfl, rfl, hs1, by omega, hns, ns1.zip ms1, hnp, ?_, ?_⟩
    · rw [List.map_fst_zip]; omega
    · rw [List.map_snd_zip]
      · exact hs2
      · omega
  · refine RdF.of_cells ⟨A1, c1, A2, c2, F1, F2, ?_, (by show ns1.length = mc.length; omega), rfl, l1, m1⟩
    show _ = [Value.int .i64 v.k, .int .i64 v.n, .string (strOf v.s), .slice A1 lc.length c1, .slice A2 mc.length c2]
    rw [hk, hn, hS, hlc, hmc]

set_option maxRecDepth 100000 in
set_option maxHeartbeats 1000000 in
theorem Order_any (h : Nat) : ∀ v : V, ht v ≤ h → oV v → szA 140737488355328 v → OrdCon v := by
  induction h with
  | zero => intro v hh; rw [ht_eq] at hh; omega
  | succ h ih =>
    intro v hh ho hz cs F w hv hnd hlt
    obtain ⟨-, -, -, z4, z5, -, z7, z8⟩ := (szA_eq _ v).1 hz
    obtain ⟨o1, o2, o3, o4⟩ := (oV_eq v).1 ho
    have hht := ht_eq v
    have IHL := Lib.hid (show ∀ x ∈ v.l, OrdCon x from fun x hx => ih x (by have := htL_mem hx; omega) (oL_mem o3 hx) (szAL_mem z7 hx))
    have IHM := Lib.hid (show ∀ x ∈ v.ms, OrdCon x from fun x hx => ih x (by have := htL_mem hx; omega) (oL_mem o4 hx) (szAL_mem z8 hx))
    obtain ⟨A1, c1, A2, c2, FL, FM, rfl, hn, rfl, hFL, hFM⟩ := hv.cells
    have HIN := Lib.hid (fun (W : World) => inside_cells v.k v.n (strOf v.s) A1 A2 v.l.length c1 v.ms.length c2 W)
    have hnd' := hnd
    rw [List.nodup_append] at hnd'
    have HFL := Lib.hid hFL
    have HFM := Lib.hid hFM
    have HN := Lib.hid hn
    have HND := Lib.hid hnd'
    have HLT := Lib.hid hlt
    have HO1 := Lib.hid o1
    have HO2 := Lib.hid o2
    obtain ⟨k, hk⟩ : ∃ x, v.k = x := ⟨_, rfl⟩
    obtain ⟨n, hnn⟩ : ∃ x, v.n = x := ⟨_, rfl⟩
    obtain ⟨S, hS⟩ : ∃ x, strOf v.s = x := ⟨_, rfl⟩
    obtain ⟨l, hll⟩ : ∃ x, v.l.length = x := ⟨_, rfl⟩
    obtain ⟨m, hmm⟩ : ∃ x, v.ms.length = x := ⟨_, rfl⟩
    have HK := Lib.hid hk
    have HNN := Lib.hid hnn
    have HSS := Lib.hid hS
    have HL := Lib.hid hll
    have HM := Lib.hid hmm
    rw [hk, hnn, hS, hll, hmm] at HIN ⊢
    rw [hll] at z4
    rw [hmm] at z5
    clear ih hh hz z7 z8 hht hv hFL hFM hn hnd hnd' hlt o1 o2 o3 o4 ho hk hnn hS hll hmm
    go_enter Try.func31, Try.ntmps31
    go_wp2_with fail
    refine (HIN.out _).mono ?_
    rintro e w1 ⟨⟨B1, n1, d1, B2, n2, d2, rfl, q1, q2, q3, q4⟩, hb1⟩
    have hB1 : n1 = l ∧ (0 < l → B1 = A1) := by
      by_cases h5 : k = 5
      · exact ⟨(q1 h5).2.1, fun _ => (q1 h5).1⟩
      · have := HO1.out (by rw [HK.out]; exact h5)
        have hl0 : l = 0 := by rw [← HL.out, this]; rfl
        exact ⟨by rw [(q2 h5).2.1, hl0], fun h => by omega⟩
    have hB2 : n2 = m ∧ (0 < m → B2 = A2) := by
      by_cases h6 : k = 6
      · exact ⟨(q3 h6).2.1, fun _ => (q3 h6).1⟩
      · have := HO2.out (by rw [HK.out]; exact h6)
        have hl0 : m = 0 := by rw [← HM.out, this]; rfl
        exact ⟨by rw [(q4 h6).2.1, hl0], fun h => by omega⟩
    obtain ⟨rfl, hB1⟩ := hB1
    obtain ⟨rfl, hB2⟩ := hB2
    have HB1 := Lib.hid (show Below w.heap.size w w1 from ((Below.refl _ _).alloc (Nat.le_refl _) _).trans (hb1.mono (by simp)))
    have hs1 : w.heap.size ≤ w1.heap.size := HB1.out.size
    have hFM1 : (v.ms.length = 0 ∧ FM = []) ∨ ∃ g T, 0 < v.ms.length ∧ B2 = some ⟨g, 0, none⟩ ∧ FM = g :: T ∧ RdFM w1 g 0 v.ns v.ms T := by
      rcases HFM.out with h | ⟨g, T, h0, e, e2, h3⟩
      · exact .inl h
      · subst e2
        exact .inr ⟨g, T, h0, (hB2 (by rw [← HM.out]; exact h0)).trans e, rfl, RdFM.keep v.ms g 0 v.ns T (HB1.out.block g (HLT.out g (by simp))) (fun x hx => HB1.out.block x (HLT.out x (by simp [hx]))) h3⟩
    have hFL1 : (v.l.length = 0 ∧ FL = []) ∨ ∃ g T, 0 < v.l.length ∧ B1 = some ⟨g, 0, none⟩ ∧ FL = g :: T ∧ RdFL w1 g 0 v.l T := by
      rcases HFL.out with h | ⟨g, T, h0, e, e2, h3⟩
      · exact .inl h
      · subst e2
        exact .inr ⟨g, T, h0, (hB1 (by rw [← HL.out]; exact h0)).trans e, rfl, RdFL.keep v.l g 0 T (HB1.out.block g (HLT.out g (by simp))) (fun x hx => HB1.out.block x (HLT.out x (by simp [hx]))) h3⟩
    have HSC := Lib.hid (sort_call B2 d2 v.ns v.ms FM w1 HN.out (by rw [HM.out]; omega) hFM1 HND.out.2.1 (fun x hx => Nat.lt_of_lt_of_le (HLT.out x (by simp [hx])) hs1))
    rw [HM.out] at HSC
    have HFL1 := Lib.hid hFL1
    have HB1A := Lib.hid hB1
    have HB2A := Lib.hid hB2
    clear q1 q2 q3 q4 hb1 hFM1 hFL1 hB1 hB2 HIN
    go_wp2_with fail
    refine HSC.out.mono ?_
    rintro e w2 ⟨rfl, ns1, ms1, Gm, n1l, n1s, n1p, m1l, hOm, hNm, hc2⟩
    have HNL := Lib.hid n1l
    have HNS := Lib.hid n1s
    have HNP := Lib.hid n1p
    have HML := Lib.hid m1l
    have HOM := Lib.hid hOm
    have HNM := Lib.hid hNm
    have HC2 := Lib.hid hc2
    have hs2 : w1.heap.size ≤ w2.heap.size := hc2.size
    have hst := OLp.start5 (w := w2) (A := B1) (l := v.l) (F := FL) (by
      rcases HFL1.out with h | ⟨g, T, h0, e, e2, h3⟩
      · exact .inl h
      · subst e2
        exact .inr ⟨g, T, h0, e, rfl, RdFL.keep v.l g 0 T (hc2.block g (Nat.lt_of_lt_of_le (HLT.out g (by simp)) hs1) (fun hx => HND.out.2.2 g (by simp) g hx rfl)) (fun x hx => hc2.block x (Nat.lt_of_lt_of_le (HLT.out x (by simp [hx])) hs1) (fun hy => HND.out.2.2 x (by simp [hx]) x hy rfl)) h3⟩) HND.out.1 (fun x hx => by have := HLT.out x (by simp [hx]); omega)
    obtain ⟨Gl, hOl⟩ := hst
    have HOL := Lib.hid hOl
    clear n1l n1s n1p m1l hOm hNm hc2 hOl HSC HFL1
    go_wp2_with fail
    go_loopw [17] (fun si wr => ∃ (j : Nat) (lc : List V) (Gs : List (List Nat)), si = .int .i64 j ∧ j ≤ n1 ∧ Aside (OLp 5 0 B1 v.l FL j lc Gs wr) ∧ Aside (ChgF FL w2 wr)) (fun si _ => n1 - (intOf si).toNat)
    case atStart => exact ⟨0, v.l, Gl, rfl, by omega, HOL.out, (show ChgF _ _ _ from ChgF.refl _ _)⟩
    case round =>
      obtain ⟨j, lc, Gs, rfl, hjn, hO, hC⟩ := hrel
      by_cases hlt : j < n1
      · have t1 : decide ((j : Int) < (n1 : Int)) = true := decide_eq_true (by omega)
        have t2 : decide (j < n1) = true := decide_eq_true hlt
        have k0 : (0 : Int) ≤ (j : Int) := by omega
        have k1 : (j : Int) < (n1 : Int) := by omega
        have k2 : ((j : Int)).toNat = j := by omega
        have hjl : j < v.l.length := by rw [HL.out]; exact hlt
        have hO' := hO.out
        rcases hO'.2.2.2 with h | ⟨g, h0, e, hI, hP⟩
        · have := h.1
          omega
        · subst e
          have hjc : j < lc.length := by rw [hO'.1]; exact hjl
          have hjg : j < Gs.length := by rw [hI.len]; exact hjc
          obtain ⟨xcs, hxc, hxv⟩ := hI.at_ j hjc hjg
          have hlcj := hO'.2.2.1 j hjc hjl (Nat.le_refl _)
          rw [hlcj] at hxv
          have hmem : v.l[j] ∈ v.l := List.getElem_mem hjl
          obtain ⟨xA, xc, xB, xd, _, _, rfl, -⟩ := hxv.cells
          have hIn := hI.nod
          rw [List.nodup_cons] at hIn
          have HCP := Lib.hid (fun (W : World) (hW : Below wr.heap.size wr W) => IHL.out v.l[j] hmem _ Gs[j] W (RdF.keep _ _ _ (fun x hx => hW.block x (hI.lt x (List.mem_cons_of_mem _ (mem_flat hjg hx)))) hxv) (nodup_part _ hIn.2 j hjg) (fun x hx => Nat.lt_of_lt_of_le (hI.lt x (List.mem_cons_of_mem _ (mem_flat hjg hx))) hW.size))
          have a0 := (hxc 0 _ rfl).1
          have a1 := (hxc 1 _ rfl).1
          have a2 := (hxc 2 _ rfl).1
          have a3 := (hxc 3 _ rfl).1
          have a4 := (hxc 4 _ rfl).1
          simp only [Nat.add_zero] at a0 a1 a2 a3 a4
          have HXC := Lib.hid hxc
          have HO' := Lib.hid hO'
          have HI := Lib.hid hI
          have HP := Lib.hid hP
          have HX := Lib.hid (show v.l[j] = v.l[j] from rfl)
          generalize v.l[j].k = xk at *
          generalize v.l[j].n = xn at *
          generalize strOf v.l[j].s = xs at *
          generalize v.l[j].l.length = xl at *
          generalize v.l[j].ms.length = xm at *
          clear hxv hxc hlcj hmem hO' hI hP hIn HX
          have HWB := Lib.hid ((Below.refl wr.heap.size wr).alloc (Nat.le_refl _) (.cells #[.int .i64 xk, .int .i64 xn, .string xs, .slice xA xl xc, .slice xB xm xd] 25))
          go_wp2_with fail
          refine (HCP.out _ HWB.out).mono ?_
          rintro e w5 ⟨rfl, v5, F5, hS5, hF5, hp5, hc5⟩
          have HS5 := Lib.hid hS5
          have HF5 := Lib.hid hF5
          have HP5 := Lib.hid hp5
          have HC5 := Lib.hid hc5
          clear hS5 hF5 hp5 hc5 HCP
          go_wp2_with fail
          go_roundw
          case rel =>
            have hIW := HI.out.keep HWB.out
            have hg : g < wr.heap.size := HI.out.lt g (by simp)
            have hch : ChgF FL w2 w5 := (show ChgF FL w2 wr from hC.out).trans ((ChgF.of HWB.out).trans (HC5.out.more fun x hx => HP.out.mem_iff.1 (List.mem_cons_of_mem _ (mem_flat hjg hx))))
            refine ⟨j + 1, lc.set j v5, Gs.set j F5, by go_num, by omega, (show OLp _ _ _ _ _ _ _ _ _ from OLp.step (HO'.out.keep HWB.out) hIW HP.out h0 hjc hjg hjl HC5.out (HXC.out.keep (HWB.out.block g hg)) HF5.out HP5.out HS5.out), hch⟩
          case measure => simp [intOf]; omega
      · have t1 : decide ((j : Int) < (n1 : Int)) = false := decide_eq_false (by omega)
        have t2 : decide (j < n1) = false := decide_eq_false hlt
        obtain rfl : n1 = j := by omega
        obtain ⟨w3, hw3⟩ : ∃ w3, w3 = wr := ⟨_, rfl⟩
        rw [← hw3] at hO hC ⊢
        have HOL3 := Lib.hid hO.out
        have HC3 := Lib.hid hC.out
        have hs3 : w2.heap.size ≤ w3.heap.size := hC.out.size
        have HMM := Lib.hid (show ms1.length = n2 from HML.out.trans HM.out)
        have hself : ∀ x ∈ FM, w3.heap[x]? = w2.heap[x]? := fun x hx => HC3.out.block x (by have := HLT.out x (by simp [hx]); omega) (fun hy => HND.out.2.2 x hy x hx rfl)
        have hkeepM : OLp 6 1 B2 ms1 FM 0 ms1 Gm w3 := by
          obtain ⟨p1, p2, p3, p4⟩ := HOM.out
          refine ⟨p1, p2, p3, ?_⟩
          rcases p4 with p4 | ⟨g, r1, r2, r3, r4⟩
          · exact .inl p4
          · refine .inr ⟨g, r1, r2, ⟨r3.len, fun i h1 h2 => ?_, r3.nod, fun x hx => Nat.lt_of_lt_of_le (r3.lt x hx) hs3⟩, r4⟩
            obtain ⟨cc, u1, u2⟩ := r3.at_ i h1 h2
            exact ⟨cc, u1.keep (hself g (r4.mem_iff.1 (by simp))), RdF.keep _ _ _ (fun x hx => hself x (r4.mem_iff.1 (List.mem_cons_of_mem _ (mem_flat h2 hx)))) u2⟩
        have HOM3 := Lib.hid hkeepM
        have HNM3 := Lib.hid (show ∀ g, B2 = some ⟨g, 0, none⟩ → 0 < n2 → NmAt g ns1 w3 from fun g e h0 => by
          refine (HNM.out g e (by rw [HM.out]; exact h0)).keep (hself g ?_)
          rcases HOM.out.2.2.2 with p4 | ⟨g', r1, r2, r3, r4⟩
          · have := p4.1
            have := HMM.out
            omega
          · rw [r2] at e
            injection e with e
            injection e with e
            subst e
            exact r4.mem_iff.1 (by simp))
        have HSRT1 := Lib.hid (show SrtL lc v.l from OLp.end_ (by rw [HL.out]; exact HOL3.out))
        have HLC := Lib.hid (show lc.length = n1 from HOL3.out.1.trans HL.out)
        have IHM1 := Lib.hid (show ∀ x ∈ ms1, OrdCon x from fun x hx => IHM.out x (by
          have hz1 : ms1.length = ns1.length := by rw [HML.out, HNL.out]
          obtain ⟨i, hi, e⟩ := List.getElem_of_mem hx
          have hm1 : (ns1[i]'(by omega), x) ∈ ns1.zip ms1 := by
            rw [← e]
            have : (ns1.zip ms1)[i]'(by simp; omega) = (ns1[i]'(by omega), ms1[i]) := by simp
            rw [← this]
            exact List.getElem_mem _
          exact (List.of_mem_zip (HNP.out.mem_iff.1 hm1)).2))
        clear hw3 hO hC hself hkeepM hlt t1 t2
        go_wp2_with fail
        go_loopw [26] (fun si wr => ∃ (j : Nat) (lc2 : List V) (Gs : List (List Nat)), si = .int .i64 j ∧ j ≤ n2 ∧ Aside (OLp 6 1 B2 ms1 FM j lc2 Gs wr) ∧ Aside (ChgF FM w3 wr) ∧ Aside (∀ g, B2 = some ⟨g, 0, none⟩ → 0 < n2 → NmAt g ns1 wr)) (fun si _ => n2 - (intOf si).toNat)
        case atStart => exact ⟨0, ms1, Gm, rfl, by omega, HOM3.out, (show ChgF _ _ _ from ChgF.refl _ _), HNM3.out⟩
        case round =>
          obtain ⟨j, lc2, Gs, rfl, hjn, hO, hC, hNm⟩ := hrel
          by_cases hlt : j < n2
          · have t1 : decide ((j : Int) < (n2 : Int)) = true := decide_eq_true (by omega)
            have t2 : decide (j < n2) = true := decide_eq_true hlt
            have k0 : (0 : Int) ≤ (j : Int) := by omega
            have k1 : (j : Int) < (n2 : Int) := by omega
            have k2 : ((j : Int)).toNat = j := by omega
            have hjl : j < ms1.length := by rw [HMM.out]; exact hlt
            have hO' := hO.out
            rcases hO'.2.2.2 with h | ⟨g, h0, e, hI, hP⟩
            · have := h.1
              omega
            · subst e
              have hjc : j < lc2.length := by rw [hO'.1]; exact hjl
              have hjg : j < Gs.length := by rw [hI.len]; exact hjc
              obtain ⟨xcs, hxc, hxv⟩ := hI.at_ j hjc hjg
              have hlcj := hO'.2.2.1 j hjc hjl (Nat.le_refl _)
              rw [hlcj] at hxv
              have hmem : ms1[j] ∈ ms1 := List.getElem_mem hjl
              have hjns : j < ns1.length := by rw [HNL.out, HM.out]; exact hlt
              have an := (hNm.out g rfl (by omega) j hjns 0 _ rfl).1
              generalize strOf ns1[j] = X at an
              obtain ⟨xA, xc, xB, xd, _, _, rfl, -⟩ := hxv.cells
              have hIn := hI.nod
              rw [List.nodup_cons] at hIn
              have HCP := Lib.hid (fun (W : World) (hW : Below wr.heap.size wr W) => IHM1.out ms1[j] hmem _ Gs[j] W (RdF.keep _ _ _ (fun x hx => hW.block x (hI.lt x (List.mem_cons_of_mem _ (mem_flat hjg hx)))) hxv) (nodup_part _ hIn.2 j hjg) (fun x hx => Nat.lt_of_lt_of_le (hI.lt x (List.mem_cons_of_mem _ (mem_flat hjg hx))) hW.size))
              have a0 := (hxc 0 _ rfl).1
              have a1 := (hxc 1 _ rfl).1
              have a2 := (hxc 2 _ rfl).1
              have a3 := (hxc 3 _ rfl).1
              have a4 := (hxc 4 _ rfl).1
              simp only [Nat.add_zero, Nat.add_assoc, Nat.reduceAdd] at a0 a1 a2 a3 a4 an
              have HXC := Lib.hid hxc
              have HO' := Lib.hid hO'
              have HI := Lib.hid hI
              have HP := Lib.hid hP
              have HX := Lib.hid (show ms1[j] = ms1[j] from rfl)
              generalize ms1[j].k = xk at *
              generalize ms1[j].n = xn at *
              generalize strOf ms1[j].s = xs at *
              generalize ms1[j].l.length = xl at *
              generalize ms1[j].ms.length = xm at *
              clear hxv hxc hlcj hmem hO' hI hP hIn HX
              have HWB := Lib.hid ((Below.refl wr.heap.size wr).alloc (Nat.le_refl _) (.cells #[.string X, .int .i64 xk, .int .i64 xn, .string xs, .slice xA xl xc, .slice xB xm xd] 50))
              go_wp2_with fail
              refine (HCP.out _ HWB.out).mono ?_
              rintro e w5 ⟨rfl, v5, F5, hS5, hF5, hp5, hc5⟩
              have HS5 := Lib.hid hS5
              have HF5 := Lib.hid hF5
              have HP5 := Lib.hid hp5
              have HC5 := Lib.hid hc5
              clear hS5 hF5 hp5 hc5 HCP
              go_wp2_with fail
              go_roundw
              case rel =>
                have hIW := HI.out.keep HWB.out
                have hg : g < wr.heap.size := HI.out.lt g (by simp)
                have hch : ChgF FM w3 w5 := (show ChgF FM w3 wr from hC.out).trans ((ChgF.of HWB.out).trans (HC5.out.more fun x hx => HP.out.mem_iff.1 (List.mem_cons_of_mem _ (mem_flat hjg hx))))
                refine ⟨j + 1, lc2.set j v5, Gs.set j F5, by go_num, by omega, (show OLp _ _ _ _ _ _ _ _ _ from OLp.step (HO'.out.keep HWB.out) hIW HP.out h0 hjc hjg hjl HC5.out (HXC.out.keep (HWB.out.block g hg)) HF5.out HP5.out HS5.out), hch, ?_⟩
                refine (show ∀ g', _ → _ → NmAt g' ns1 _ from fun g' e _ => ?_)
                injection e with e
                injection e with e
                subst e
                have hnd := hIW.nod
                rw [List.nodup_cons] at hnd
                exact (hNm.out g rfl (by omega)).keep ((HC5.out.block g (hIW.lt g (by simp)) fun hx => hnd.1 (mem_flat hjg hx)).trans (HWB.out.block g hg))
              case measure => simp [intOf]; omega
          · have t1 : decide ((j : Int) < (n2 : Int)) = false := decide_eq_false (by omega)
            have t2 : decide (j < n2) = false := decide_eq_false hlt
            obtain rfl : n2 = j := by omega
            go_wp2
            go_end0
            refine ⟨rfl, ?_⟩
            have hOe := hO.out
            have hCe : ChgF FM w3 wr := hC.out
            have hsrt2 : SrtL lc2 ms1 := OLp.end_ (by rw [HMM.out]; exact hOe)
            exact order_end (w := w) (w1 := w1) (w2 := w2) (w3 := w3) (wr := wr) HL.out HM.out HK.out HNN.out HSS.out HB1.out HND.out HLT.out HB1A.out HB2A.out HC2.out HC3.out hCe HOL3.out hOe hsrt2 HSRT1.out HN.out HNL.out HNS.out HNP.out HML.out hNm.out
end Go.Proofs.Ytbepnjgbkfidiaa.Tr
/- Contracts of Sort and Count. -/
namespace Go.Proofs.Ytbepnjgbkfidiaa.Tr
open Go.Proofs Go.RowKit Go.Lib
open Go.Proofs.Ytbepnjgbkfidiaa.Utf
open Go.Proofs.Ytbepnjgbkfidiaa.Sc
open Go.Proofs.Ytbepnjgbkfidiaa.Re

def GivesSort (v : V) (w : World) (e : Ending) (w' : World) : Prop :=
  (∃ (a : V) (cs : List Value) (F : List Nat), e = .returned (.agg cs.toArray) ∧ Srt a v ∧ RdF w' a cs F ∧ F.Nodup ∧ ∀ x ∈ F, w.heap.size ≤ x ∧ x < w'.heap.size) ∧ Below w.heap.size w w'

set_option maxRecDepth 100000 in
set_option maxHeartbeats 1000000 in
theorem Sort_any (v : V) (cs : List Value) (w : World) (ho : oV v) (hz : szA 140737488355328 v) (hv : RdA w 0 w.heap.size v cs) : Calls Try.prog 18 #[.agg cs.toArray] w (GivesSort v w) := by
  have HCP := Lib.hid (fun (W : World) (hW : Below w.heap.size w W) => Copy_any (ht v) v (Nat.le_refl _) hz cs W (hv.below hW (Nat.le_refl _) hW.size))
  have HOR := Lib.hid (Order_any (ht v) v (Nat.le_refl _) ho hz)
  obtain ⟨A1, c1, A2, c2, rfl, -⟩ := hv.cells
  obtain ⟨k, hk⟩ : ∃ x, v.k = x := ⟨_, rfl⟩
  obtain ⟨n, hnn⟩ : ∃ x, v.n = x := ⟨_, rfl⟩
  obtain ⟨S, hS⟩ : ∃ x, strOf v.s = x := ⟨_, rfl⟩
  obtain ⟨l, hll⟩ : ∃ x, v.l.length = x := ⟨_, rfl⟩
  obtain ⟨m, hmm⟩ : ∃ x, v.ms.length = x := ⟨_, rfl⟩
  rw [hk, hnn, hS, hll, hmm] at HCP ⊢
  have HE := Lib.hid (And.intro hk (And.intro hnn (And.intro hS (And.intro hll hmm))))
  clear hv hz ho hk hnn hS hll hmm
  go_enter Try.func18, Try.ntmps18
  go_wp2_with fail
  have hz0 := heapNew (w.alloc (.cells #[.int .i64 k, .int .i64 n, .string S, .slice A1 l c1, .slice A2 m c2] 25)) (.cells #[.int .i64 0, .int .i64 0, .string ⟨#[]⟩, .slice none 0 0, .slice none 0 0] 25)
  have hz1 := heapOld (heapNew w (.cells #[.int .i64 k, .int .i64 n, .string S, .slice A1 l c1, .slice A2 m c2] 25)) (.cells #[.int .i64 0, .int .i64 0, .string ⟨#[]⟩, .slice none 0 0, .slice none 0 0] 25)
  rw [szAl] at hz0
  have hs0 : ((w.alloc (.cells #[.int .i64 k, .int .i64 n, .string S, .slice A1 l c1, .slice A2 m c2] 25)).alloc (.cells #[.int .i64 0, .int .i64 0, .string ⟨#[]⟩, .slice none 0 0, .slice none 0 0] 25)).heap.size = w.heap.size + 2 := by rw [szAl, szAl]
  have hb0 : Below w.heap.size w ((w.alloc (.cells #[.int .i64 k, .int .i64 n, .string S, .slice A1 l c1, .slice A2 m c2] 25)).alloc (.cells #[.int .i64 0, .int .i64 0, .string ⟨#[]⟩, .slice none 0 0, .slice none 0 0] 25)) := ((Below.refl _ _).alloc (Nat.le_refl _) _).alloc (by simp) _
  generalize ((w.alloc (.cells #[.int .i64 k, .int .i64 n, .string S, .slice A1 l c1, .slice A2 m c2] 25)).alloc (.cells #[.int .i64 0, .int .i64 0, .string ⟨#[]⟩, .slice none 0 0, .slice none 0 0] 25)) = w0 at *
  refine (HCP.out _ hb0).mono ?_
  rintro e w1 ⟨⟨cs1, F1, rfl, hF1, hn1, hr1⟩, hb1⟩
  obtain ⟨B1, d1, B2, d2, -, -, rfl, -⟩ := hF1.cells
  rw [HE.out.1, HE.out.2.1, HE.out.2.2.1, HE.out.2.2.2.1, HE.out.2.2.2.2] at hF1
  have h1 := (hb1.block w.heap.size (by omega)).trans hz1
  have h0 := (hb1.block (w.heap.size + 1) (by omega)).trans hz0
  have HB1 := Lib.hid (hb0.trans (hb1.mono hb0.size))
  have HSW1 := Lib.hid (show w.heap.size + 2 ≤ w1.heap.size by have := hb1.size; omega)
  have hr2 : ∀ x ∈ F1, w.heap.size + 2 ≤ x ∧ x < w1.heap.size := fun x hx => by have := hr1 x hx; omega
  have hv2 := st5_row h1 (.int .i64 k) (.int .i64 n) (.string S) (.slice B1 l d1) (.slice B2 m d2)
  have h02 := (st5_other (show w.heap.size + 1 ≠ w.heap.size by omega) (.int .i64 k) (.int .i64 n) (.string S) (.slice B1 l d1) (.slice B2 m d2)).trans h0
  have hF2 : RdF (st5 w1 w.heap.size (.int .i64 k) (.int .i64 n) (.string S) (.slice B1 l d1) (.slice B2 m d2)) v _ F1 := RdF.keep _ _ _ (fun x hx => st5_other (by have := hr2 x hx; omega) _ _ _ _ _) hF1
  have hb2 : Below w.heap.size w (st5 w1 w.heap.size (.int .i64 k) (.int .i64 n) (.string S) (.slice B1 l d1) (.slice B2 m d2)) := st5_below HB1.out (Nat.le_refl _) _ _ _ _ _
  have hsz2 := st5_size (w := w1) (b := w.heap.size) (.int .i64 k) (.int .i64 n) (.string S) (.slice B1 l d1) (.slice B2 m d2)
  obtain ⟨⟨p0, p1, p2, p3, p4⟩, ⟨f0, f1, f2, f3, f4⟩⟩ := row5 h1
  have e1 := HE.out.1
  obtain ⟨w2, hw2⟩ : ∃ w2, w2 = st5 w1 w.heap.size (.int .i64 k) (.int .i64 n) (.string S) (.slice B1 l d1) (.slice B2 m d2) := ⟨_, rfl⟩
  rw [← hw2] at hv2 h02 hF2 hb2 hsz2
  have HF2 := Lib.hid hF2
  have HN1 := Lib.hid hn1
  have HR2 := Lib.hid hr2
  have HV2 := Lib.hid hv2
  have H02 := Lib.hid h02
  have HB2 := Lib.hid hb2
  have HS2 := Lib.hid hsz2
  have HW2 := Lib.hid hw2
  obtain ⟨⟨q0, q1, q2, q3, q4⟩, -⟩ := row5 hv2
  have hkk := HE.out.1
  have hkn := HE.out.2.1
  have hks := HE.out.2.2.1
  have hkl := HE.out.2.2.2.1
  have hkm := HE.out.2.2.2.2
  have HOR2 := Lib.hid (HOR.out _ F1 w2 hF2 hn1 (fun x hx => by have := hr2 x hx; omega))
  rw [hkk, hkn, hks, hkl, hkm]
  clear hF1 hF2 hn1 hr1 hr2 hb1 hb0 hz0 hz1 hs0 h1 h0 hv2 h02 hb2 hsz2 hw2 e1 hkk hkn hks hkl hkm HOR HCP
  go_wp2_with fail
  rw [show ((((w1.setCell ⟨w.heap.size, 0, none⟩ (.int .i64 k)).setCell ⟨w.heap.size, 1, none⟩ (.int .i64 n)).setCell ⟨w.heap.size, 2, none⟩ (.string S)).setCell ⟨w.heap.size, 3, none⟩ (.slice B1 l d1)).setCell ⟨w.heap.size, 4, none⟩ (.slice B2 m d2) = w2 from HW2.out.symm]
  refine HOR2.out.mono ?_
  rintro e w3 ⟨rfl, a, F3, hS3, hF3, hp3, hc3⟩
  have hv3 := (hc3.block w.heap.size (by have := HSW1.out; have := HS2.out; omega) (fun hx => by have := HR2.out _ hx; omega)).trans HV2.out
  have h03 := (hc3.block (w.heap.size + 1) (by have := HSW1.out; have := HS2.out; omega) (fun hx => by have := HR2.out _ hx; omega)).trans H02.out
  have HS3 := Lib.hid hS3
  have HF3 := Lib.hid hF3
  have HP3 := Lib.hid hp3
  have HC3 := Lib.hid hc3
  have H03 := Lib.hid h03
  obtain ⟨⟨r0, r1, r2, r3, r4⟩, -⟩ := row5 hv3
  obtain ⟨⟨u0, u1, u2, u3, u4⟩, ⟨g0, g1, g2, g3, g4⟩⟩ := row5 h03
  clear p0 p1 p2 p3 p4 f0 f1 f2 f3 f4 q0 q1 q2 q3 q4 hS3 hF3 hp3 hc3 hv3 h03 HOR2
  go_wp2
  refine bodyPost_ret (res5 rfl rfl (st5_row H03.out (.int .i64 k) (.int .i64 n) (.string S) (.slice B1 l d1) (.slice B2 m d2))) rfl ?_
  have hr3 : ∀ x ∈ F3, w.heap.size + 2 ≤ x ∧ x < w1.heap.size := fun x hx => HR2.out x (HP3.out.mem_iff.1 hx)
  have hb3 : Below w.heap.size w w3 := HB2.out.trans (HC3.out.below HB2.out.size (fun x hx => by have := HR2.out x hx; omega))
  refine ⟨⟨a, [.int .i64 k, .int .i64 n, .string S, .slice B1 l d1, .slice B2 m d2], F3, rfl, HS3.out, RdF.keep _ _ _ (fun x hx => st5_other (show x ≠ w.heap.size + 1 by have := hr3 x hx; omega) _ _ _ _ _) HF3.out, HP3.out.nodup_iff.2 HN1.out, fun x hx => ?_⟩, st5_below hb3 (by omega) _ _ _ _ _⟩
  have e := st5_size (w := w3) (b := w.heap.size + 1) (.int .i64 k) (.int .i64 n) (.string S) (.slice B1 l d1) (.slice B2 m d2)
  have := hr3 x hx
  have := HC3.out.size
  have := HS2.out
  exact ⟨by omega, by show x < (st5 w3 (w.heap.size + 1) (.int .i64 k) (.int .i64 n) (.string S) (.slice B1 l d1) (.slice B2 m d2)).heap.size; rw [e]; omega⟩

theorem inL_own {v : V} (h : oV v) : inL v = v.l := by
  unfold inL
  split
  · rfl
  · rename_i hk; exact (((oV_eq v).1 h).1 hk).symm
theorem inM_own {v : V} (h : oV v) : inM v = v.ms := by
  unfold inM
  split
  · rfl
  · rename_i hk; exact (((oV_eq v).1 h).2.1 hk).symm
theorem cntL_take (l : List V) (k : Nat) (h : k < l.length) : cntL (l.take (k + 1)) = cntL (l.take k) + cnt l[k] := by
  induction l generalizing k with
  | nil => simp at h
  | cons a r ih =>
    cases k with
    | zero => simp [cntL]
    | succ k =>
      rw [List.take_succ_cons, List.take_succ_cons, cntL, cntL, ih k (by simpa using h)]
      show _ = cnt a + cntL (r.take k) + cnt (r[k]'(by simpa using h))
      omega
theorem cntL_le_take (l : List V) (k : Nat) : cntL (l.take k) ≤ cntL l := by
  induction l generalizing k with
  | nil => simp [cntL]
  | cons a r ih =>
    cases k with
    | zero => simp [cntL]
    | succ k => rw [List.take_succ_cons, cntL, cntL]; have := ih k; omega

def CntCon (v : V) : Prop := ∀ (cs : List Value) (w : World), RdA w 0 w.heap.size v cs → Calls Try.prog 21 #[.agg cs.toArray] w (Gives (.int .i64 (cnt v : Nat)) w)
set_option maxRecDepth 100000 in
set_option maxHeartbeats 1000000 in
theorem Count_any (h : Nat) : ∀ v : V, ht v ≤ h → oV v → cnt v < 4611686018427387904 → CntCon v := by
  induction h with
  | zero => intro v hh; rw [ht_eq] at hh; omega
  | succ h ih =>
    intro v hh ho hc cs w hv
    have hct := cnt_eq v
    have hht := ht_eq v
    obtain ⟨-, -, o3, o4⟩ := (oV_eq v).1 ho
    have IHL := Lib.hid (show ∀ x ∈ v.l, CntCon x from fun x hx => ih x (by have := htL_mem hx; omega) (oL_mem o3 hx) (by have := cnt_mem hx; omega))
    have IHM := Lib.hid (show ∀ x ∈ v.ms, CntCon x from fun x hx => ih x (by have := htL_mem hx; omega) (oL_mem o4 hx) (by have := cnt_mem hx; omega))
    have HIN := Lib.hid (fun (W : World) (hW : Below w.heap.size w W) => inside_any v cs 0 w.heap.size W (hv.below hW (Nat.le_refl _) (Nat.le_refl _)))
    have HLL := Lib.hid (inL_own ho)
    have HMM := Lib.hid (inM_own ho)
    have HIL := Lib.hid (in_len hv)
    have hlc := len_cntL v.l
    have hmc := len_cntL v.ms
    have HCT := Lib.hid hct
    obtain ⟨C, hC⟩ : ∃ x, cnt v = x := ⟨_, rfl⟩
    have HC := Lib.hid hC
    rw [hC] at hc hct ⊢
    obtain ⟨A0, c0, A20, c20, rfl, -⟩ := hv.cells
    have ha : ∃ ca cb, ca = cntL v.l ∧ cb = cntL v.ms := ⟨_, _, rfl, rfl⟩
    obtain ⟨ca, cb, hca, hcb⟩ := ha
    rw [← hca] at hlc
    rw [← hcb] at hmc
    rw [← hca, ← hcb] at hct
    have HCA := Lib.hid hca
    have HCB := Lib.hid hcb
    clear ih hh hht o3 o4 ho hv hC hca hcb
    obtain ⟨nl, hnl⟩ : ∃ x, v.l.length = x := ⟨_, rfl⟩
    obtain ⟨nm, hnm⟩ : ∃ x, v.ms.length = x := ⟨_, rfl⟩
    have HNL := Lib.hid hnl
    have HNM := Lib.hid hnm
    rw [hnl] at hlc
    rw [hnm] at hmc
    rw [hnl, hnm] at HIN ⊢
    generalize v.k = kk at HIN ⊢
    generalize v.n = nn at HIN ⊢
    generalize strOf v.s = S at HIN ⊢
    clear hnl hnm
    go_enter Try.func21, Try.ntmps21
    go_wp2_with fail
    refine (HIN.out _ ((Below.refl _ _).alloc (Nat.le_refl _) _)).mono ?_
    rintro e w1 ⟨⟨A, c, A2, c2, rfl, hL, hM⟩, hb1⟩
    have HB1 := Lib.hid (((Below.refl w.heap.size w).alloc (Nat.le_refl _) _).trans (hb1.mono (by simp)))
    have HL := Lib.hid (slL_keep hL (hb1.mono (by simp)) HB1.out.size)
    have HM := Lib.hid (slM_keep hM (hb1.mono (by simp)) HB1.out.size)
    rw [HLL.out, HMM.out, HNL.out, HNM.out]
    rw [HLL.out] at HL
    clear hL hM hb1 HIN
    go_wp2_with fail
    go_loopw [3, 17] (fun sn si wr => ∃ k n : Nat, sn = .int .i64 n ∧ si = .int .i64 k ∧ k ≤ nl ∧ n ≤ 1 + ca ∧ Aside (n = 1 + cntL (v.l.take k)) ∧ Aside (Below w1.heap.size w1 wr)) (fun _ si _ => nl - (intOf si).toNat)
    case atStart => exact ⟨0, 1, rfl, rfl, by omega, by omega, (show _ = _ by simp [cntL]), (show Below _ _ _ from Below.refl _ _)⟩
    case round =>
      obtain ⟨k, n, rfl, rfl, hk, hn, hnk, hbel⟩ := hrel
      by_cases hlt : k < nl
      · have t1 : decide ((k : Int) < (nl : Int)) = true := decide_eq_true (by omega)
        have t2 : decide (k < nl) = true := decide_eq_true hlt
        have k0 : (0 : Int) ≤ (k : Int) := by omega
        have k1 : (k : Int) < (nl : Int) := by omega
        have k2 : ((k : Int)).toNat = k := by omega
        have hkl : k < v.l.length := by rw [HNL.out]; exact hlt
        obtain ⟨g, o, rfl, _, hg, hr⟩ := HL.out (by omega)
        obtain ⟨xcs, hxc, hxv⟩ := RdAL.at_ _ o hr k hkl
        have hmem : v.l[k] ∈ v.l := List.getElem_mem hkl
        have htk := cntL_take v.l k hkl
        have hle := cntL_le_take v.l (k + 1)
        have hq : cnt v.l[k] = cnt v.l[k] := rfl
        obtain ⟨q, hqq⟩ : ∃ x, cnt v.l[k] = x := ⟨_, rfl⟩
        have hnq : n + q ≤ 1 + ca := by rw [HCA.out, hnk.out, ← hqq]; omega
        have HTK := Lib.hid (show n + q = 1 + cntL (v.l.take (k + 1)) by rw [htk, hnk.out, ← hqq]; omega)
        have HCP := Lib.hid (fun (W : World) (hW : Below w1.heap.size w1 W) => IHL.out _ hmem xcs W (hxv.below hW (Nat.le_refl _) hW.size))
        rw [hqq] at HCP
        have wn : IntKind.i64.wrap ((n : Int) + (q : Int)) = (((n + q : Nat)) : Int) := by rw [IntKind.wrap_i64]; omega
        have wn2 : (n : Int) + (q : Int) = (((n + q : Nat)) : Int) := by omega
        obtain ⟨z, hz⟩ : ∃ z, n + q = z := ⟨_, rfl⟩
        rw [hz] at wn wn2 hnq HTK
        obtain ⟨xA, xc, xB, xd, rfl, -⟩ := hxv.cells
        have hw := hbel.out
        have a0 := (hw.cell (p := ⟨g, o + k * 5, none⟩) hg).trans (hxc 0 _ rfl)
        have a1 := (hw.cell (p := ⟨g, o + k * 5 + 1, none⟩) hg).trans (hxc 1 _ rfl)
        have a2 := (hw.cell (p := ⟨g, o + k * 5 + 2, none⟩) hg).trans (hxc 2 _ rfl)
        have a3 := (hw.cell (p := ⟨g, o + k * 5 + 3, none⟩) hg).trans (hxc 3 _ rfl)
        have a4 := (hw.cell (p := ⟨g, o + k * 5 + 4, none⟩) hg).trans (hxc 4 _ rfl)
        generalize v.l[k].k = xk at *
        generalize v.l[k].n = xn at *
        generalize strOf v.l[k].s = xs at *
        generalize v.l[k].l.length = xl at *
        generalize v.l[k].ms.length = xm at *
        have HWB := Lib.hid (hw.alloc hw.size (.cells #[.int .i64 xk, .int .i64 xn, .string xs, .slice xA xl xc, .slice xB xm xd] 25))
        clear hxv hxc hmem htk hle hq hqq hr hw hz
        go_wp2_with fail
        refine (HCP.out _ HWB.out).mono ?_
        rintro e w5 ⟨rfl, hb5⟩
        have HB5 := Lib.hid (HWB.out.trans (hb5.mono HWB.out.size))
        clear hb5 HCP
        go_wp2
        go_roundw
        case rel => exact ⟨k + 1, z, by first | rfl | (rw [wn2]) | (rw [wn]), by go_num, by omega, hnq, HTK.out, HB5.out⟩
        case measure => simp [intOf]; omega
      · have t1 : decide ((k : Int) < (nl : Int)) = false := decide_eq_false (by omega)
        have t2 : decide (k < nl) = false := decide_eq_false hlt
        have HN1 := Lib.hid (show n = 1 + ca by rw [hnk.out, HCA.out, List.take_of_length_le (by rw [HNL.out]; omega)])
        obtain ⟨w2, hw2⟩ : ∃ w2, w2 = wr := ⟨_, rfl⟩
        rw [← hw2] at hbel ⊢
        have HB2 := Lib.hid hbel.out
        have hs12 : w1.heap.size ≤ w2.heap.size := hbel.out.size
        clear hw2 hbel hnk hlt
        go_wp2_with fail
        go_loopw [3, 28] (fun sn si wr => ∃ k n : Nat, sn = .int .i64 n ∧ si = .int .i64 k ∧ k ≤ nm ∧ n ≤ 1 + ca + cb ∧ Aside (n = 1 + ca + cntL (v.ms.take k)) ∧ Aside (Below w2.heap.size w2 wr)) (fun _ si _ => nm - (intOf si).toNat)
        case atStart => exact ⟨0, n, rfl, rfl, by omega, by omega, (show _ = _ by rw [HN1.out]; simp [cntL]), (show Below _ _ _ from Below.refl _ _)⟩
        case round =>
          obtain ⟨k, n, rfl, rfl, hk, hn, hnk, hbel⟩ := hrel
          by_cases hlt : k < nm
          · have t1 : decide ((k : Int) < (nm : Int)) = true := decide_eq_true (by omega)
            have t2 : decide (k < nm) = true := decide_eq_true hlt
            have k0 : (0 : Int) ≤ (k : Int) := by omega
            have k1 : (k : Int) < (nm : Int) := by omega
            have k2 : ((k : Int)).toNat = k := by omega
            have hkl : k < v.ms.length := by rw [HNM.out]; exact hlt
            have hm2 := HM.out
            rw [HMM.out] at hm2
            obtain ⟨g, o, rfl, _, hg, hr⟩ := hm2 (by omega)
            have hil : k < (inN v).length := by rw [HIL.out, HMM.out]; exact hkl
            obtain ⟨hxn, xcs, hxc, hxv⟩ := RdAM.at_ _ _ o hr k hkl hil
            have hmem : v.ms[k] ∈ v.ms := List.getElem_mem hkl
            have htk := cntL_take v.ms k hkl
            have hle := cntL_le_take v.ms (k + 1)
            obtain ⟨q, hqq⟩ : ∃ x, cnt v.ms[k] = x := ⟨_, rfl⟩
            have hnq : n + q ≤ 1 + ca + cb := by rw [HCB.out, hnk.out, ← hqq]; omega
            have HTK := Lib.hid (show n + q = 1 + ca + cntL (v.ms.take (k + 1)) by rw [htk, hnk.out, ← hqq]; omega)
            have hb12 : Below w1.heap.size w1 wr := HB2.out.trans (hbel.out.mono hs12)
            have HCP := Lib.hid (fun (W : World) (hW : Below w1.heap.size w1 W) => IHM.out _ hmem xcs W (hxv.below hW (Nat.le_refl _) hW.size))
            rw [hqq] at HCP
            have wn : IntKind.i64.wrap ((n : Int) + (q : Int)) = (((n + q : Nat)) : Int) := by rw [IntKind.wrap_i64]; omega
            have wn2 : (n : Int) + (q : Int) = (((n + q : Nat)) : Int) := by omega
            obtain ⟨z, hz⟩ : ∃ z, n + q = z := ⟨_, rfl⟩
            rw [hz] at wn wn2 hnq HTK
            obtain ⟨xA, xc, xB, xd, rfl, -⟩ := hxv.cells
            have an := (hb12.cell (p := ⟨g, o + k * 6, none⟩) hg).trans hxn
            have a0 := (hb12.cell (p := ⟨g, o + k * 6 + 1, none⟩) hg).trans (hxc 0 _ rfl)
            have a1 := (hb12.cell (p := ⟨g, o + k * 6 + 2, none⟩) hg).trans (hxc 1 _ rfl)
            have a2 := (hb12.cell (p := ⟨g, o + k * 6 + 3, none⟩) hg).trans (hxc 2 _ rfl)
            have a3 := (hb12.cell (p := ⟨g, o + k * 6 + 4, none⟩) hg).trans (hxc 3 _ rfl)
            have a4 := (hb12.cell (p := ⟨g, o + k * 6 + 5, none⟩) hg).trans (hxc 4 _ rfl)
            generalize strOf (inN v)[k] = X at *
            generalize v.ms[k].k = xk at *
            generalize v.ms[k].n = xn at *
            generalize strOf v.ms[k].s = xs at *
            generalize v.ms[k].l.length = xl at *
            generalize v.ms[k].ms.length = xm at *
            have HWB := Lib.hid (hbel.out.alloc hbel.out.size (.cells #[.string X, .int .i64 xk, .int .i64 xn, .string xs, .slice xA xl xc, .slice xB xm xd] 50))
            have HWB1 := Lib.hid (hb12.alloc hb12.size (.cells #[.string X, .int .i64 xk, .int .i64 xn, .string xs, .slice xA xl xc, .slice xB xm xd] 50))
            clear hxv hxc hmem htk hle hqq hr hz hm2 hil hxn hb12
            go_wp2_with fail
            refine (HCP.out _ HWB1.out).mono ?_
            rintro e w5 ⟨rfl, hb5⟩
            have HB5 := Lib.hid (HWB.out.trans (hb5.mono HWB.out.size))
            clear hb5 HCP
            go_wp2
            go_roundw
            case rel => exact ⟨k + 1, z, by first | rfl | (rw [wn2]) | (rw [wn]), by go_num, by omega, hnq, HTK.out, HB5.out⟩
            case measure => simp [intOf]; omega
          · have t1 : decide ((k : Int) < (nm : Int)) = false := decide_eq_false (by omega)
            have t2 : decide (k < nm) = false := decide_eq_false hlt
            have HN2 := Lib.hid (show n = C by rw [hnk.out, hct, HCB.out, List.take_of_length_le (by rw [HNM.out]; omega)])
            clear hnk
            go_wp2
            go_ret
            exact ⟨by rw [HN2.out]; rfl, HB1.out.trans ((HB2.out.trans (hbel.out.mono hs12)).mono HB1.out.size)⟩
end Go.Proofs.Ytbepnjgbkfidiaa.Tr
