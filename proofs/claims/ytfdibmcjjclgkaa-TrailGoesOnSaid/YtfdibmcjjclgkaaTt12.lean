/- Merged: TlPl4. -/
import Derived.Test.YtfdibmcjjclgkaaTt6
import Derived.Test.YtfdibmcjjclgkaaTt3
namespace Go.Proofs.Ytfdibmcjjclgkaa.Tl
open Go.Proofs Go.RowKit Go.Sort
open Go.Proofs.Ytfdibmcjjclgkaa.Utf

def upW (e : En) (p : Pa) : Pa := if p.1 = e.2.1 then (p.1, decide (e.2.2 ≠ 1), p.2.2.1, p.2.2.2) else p
def newP (e : En) : Pa := (e.2.1, decide (e.2.2 ≠ 1), decide (e.2.2 ≠ 3), e.1)
def stpB (s : Int) (e : En) (O : List Pa) : List Pa := if e.1 ≤ s then O else if e.2.1 ∈ O.map (·.1) then O.map (upW e) else O ++ [newP e]
def fndS (s : Int) (l : List En) : List Pa := l.foldr (stpB s) []
def adjS (s : Int) (pre : List En) (p : Pa) : Pa := match pre.find? (hit s p.1) with
  | some x => (p.1, decide (x.2.2 ≠ 1), p.2.2.1, p.2.2.2)
  | none => p
theorem adj_fst (s : Int) (pre : List En) (p : Pa) : (adjS s pre p).1 = p.1 := by unfold adjS; split <;> rfl
theorem adj_two (s : Int) (pre : List En) (e : En) (p : Pa) : adjS s pre (adjS s [e] p) = adjS s (pre ++ [e]) p := by
  have h : ∀ q : Pa, adjS s pre q = match pre.find? (hit s q.1) with | some x => (q.1, decide (x.2.2 ≠ 1), q.2.2.1, q.2.2.2) | none => q := fun _ => rfl
  rw [h, adj_fst]
  show _ = match (pre ++ [e]).find? (hit s p.1) with | some x => (p.1, decide (x.2.2 ≠ 1), p.2.2.1, p.2.2.2) | none => p
  rw [List.find?_append]
  cases hp : pre.find? (hit s p.1) with
  | some x =>
    simp only [Option.some_or]
    unfold adjS
    split <;> rfl
  | none =>
    simp only [Option.none_or]
    rfl
theorem past_adj {s : Int} {pre : List En} {e : En} (h : s < e.1) : pastT s (pre ++ [e]) e = adjS s pre (pastT s [e] e) := by
  have hh : hit s e.2.1 e = true := hit_is.2 ⟨rfl, h⟩
  have h1 : [e].find? (hit s e.2.1) = some e := by rw [List.find?_cons_of_pos hh]
  unfold adjS pastT
  simp only
  rw [List.find?_append, h1]
  cases hp : pre.find? (hit s e.2.1) with
  | some x => rfl
  | none => rfl
theorem can_adj (s : Int) : ∀ (l pre : List En), canS s pre l = (canS s [] l).map (adjS s pre)
  | [], _ => rfl
  | e :: r, pre => by
    rw [canS, canS, can_adj s r (pre ++ [e]), can_adj s r ([] ++ [e]), List.map_append, List.map_map]
    congr 1
    · by_cases h : s < e.1 ∧ r.any (hit s e.2.1) = false
      · rw [if_pos h, if_pos h, List.map_cons, List.map_nil, past_adj h.1]; rfl
      · rw [if_neg h, if_neg h]; rfl
    · refine List.map_congr_left fun p _ => ?_
      exact (adj_two s pre e p).symm
theorem can_ids (s : Int) (id : List UInt8) : ∀ l : List En, id ∈ (canS s [] l).map (·.1) ↔ l.any (hit s id) = true
  | [] => by simp [canS]
  | e :: r => by
    rw [canS, can_adj s r, List.map_append, List.map_map, List.mem_append, List.any_cons, Bool.or_eq_true]
    have e1 : ((fun x : Pa => x.1) ∘ adjS s ([] ++ [e])) = fun x : Pa => x.1 := funext fun p => adj_fst _ _ _
    rw [e1, can_ids s id r]
    by_cases h : s < e.1 ∧ r.any (hit s e.2.1) = false
    · rw [if_pos h]
      simp only [List.map_cons, List.map_nil, List.mem_singleton]
      constructor
      · rintro (h1 | h1)
        · exact .inl (hit_is.2 ⟨h1.symm, h.1⟩)
        · exact .inr h1
      · rintro (h1 | h1)
        · exact .inl (hit_is.1 h1).1.symm
        · exact .inr h1
    · rw [if_neg h]
      simp only [List.map_nil, List.not_mem_nil, false_or]
      constructor
      · exact .inr
      · rintro (h1 | h1)
        · have h2 := hit_is.1 h1
          cases hr : r.any (hit s e.2.1)
          · exact absurd ⟨h2.2, hr⟩ h
          · rw [h2.1] at hr; exact hr
        · exact h1
theorem adj_up {s : Int} {e : En} (h : s < e.1) (p : Pa) : adjS s [e] p = upW e p := by
  unfold adjS upW
  by_cases h1 : p.1 = e.2.1
  · rw [List.find?_cons_of_pos (hit_is.2 ⟨h1.symm, h⟩), if_pos h1]
  · rw [List.find?_cons_of_neg (by rw [hit_is]; exact fun k => h1 k.1.symm), if_neg h1]; rfl
theorem fnd_can (s : Int) : ∀ l : List En, (fndS s l).reverse = canS s [] l
  | [] => rfl
  | e :: r => by
    have ih := fnd_can s r
    have eids : (e.2.1 ∈ (fndS s r).map (·.1)) ↔ r.any (hit s e.2.1) = true := by
      rw [← can_ids s e.2.1 r, ← ih, List.map_reverse, List.mem_reverse]
    show (stpB s e (fndS s r)).reverse = _
    rw [canS, can_adj s r, List.nil_append]
    unfold stpB
    by_cases h1 : e.1 ≤ s
    · rw [if_pos h1, if_neg (by omega), List.nil_append, ih]
      have : ∀ p, adjS s [e] p = p := fun p => by
        unfold adjS
        rw [List.find?_cons_of_neg (by rw [hit_is]; omega)]; rfl
      rw [show adjS s [e] = id from funext this, List.map_id]
    · rw [if_neg h1]
      have h2 : s < e.1 := by omega
      by_cases h3 : e.2.1 ∈ (fndS s r).map (·.1)
      · rw [if_pos h3, if_neg (by rw [eids.1 h3]; simp), List.nil_append, ← List.map_reverse, ih]
        exact List.map_congr_left fun p _ => (adj_up h2 p).symm
      · have h4 : r.any (hit s e.2.1) = false := by
          cases hr : r.any (hit s e.2.1)
          · rfl
          · exact absurd (eids.2 hr) h3
        rw [if_neg h3, if_pos ⟨h2, h4⟩, List.reverse_append, List.reverse_singleton, ih]
        congr 1
        · have h1 : [e].find? (hit s e.2.1) = some e := by rw [List.find?_cons_of_pos (hit_is.2 ⟨rfl, h2⟩)]
          unfold pastT newP
          rw [h1]; rfl
        · conv => lhs; rw [← List.map_id (canS s [] r)]
          refine List.map_congr_left fun p hp => ?_
          rw [adj_up h2, upW, if_neg]
          · rfl
          · intro hc
            apply h3
            have : e.2.1 ∈ (canS s [] r).map (·.1) := List.mem_map.2 ⟨p, hp, hc⟩
            rw [← ih, List.map_reverse, List.mem_reverse] at this
            exact this
theorem up_fst (e : En) (p : Pa) : (upW e p).1 = p.1 := by unfold upW; split <;> rfl
theorem stp_nodup {s : Int} {e : En} {O : List Pa} (h : (O.map (·.1)).Nodup) : ((stpB s e O).map (·.1)).Nodup := by
  unfold stpB
  split
  · exact h
  · split
    · rw [List.map_map, show ((fun x : Pa => x.1) ∘ upW e) = fun x : Pa => x.1 from funext fun p => up_fst e p]; exact h
    · rename_i h1
      rw [List.map_append, List.map_cons, List.map_nil, List.nodup_append]
      exact ⟨h, by simp, fun a ha b hb => by rw [List.mem_singleton] at hb; subst hb; rintro rfl; exact h1 ha⟩
theorem fnd_nodup (s : Int) : ∀ l : List En, ((fndS s l).map (·.1)).Nodup
  | [] => List.nodup_nil
  | _ :: r => stp_nodup (fnd_nodup s r)
theorem stp_len (s : Int) (e : En) (O : List Pa) : (stpB s e O).length ≤ O.length + 1 := by
  unfold stpB
  split
  · omega
  · split
    · rw [List.length_map]; omega
    · rw [List.length_append]; exact Nat.le_refl _
theorem fnd_len (s : Int) : ∀ l : List En, (fndS s l).length ≤ l.length
  | [] => Nat.le_refl _
  | e :: r => Nat.le_trans (stp_len s e (fndS s r)) (by have := fnd_len s r; rw [List.length_cons]; omega)

def paP (x : P4) : Pa := (x.nm, x.k, x.n, x.s)
def pP (p : Pa) (g : Nat) : P4 := ⟨p.1, p.2.1, p.2.2.1, p.2.2.2, g⟩
def zipP : Nat → List Pa → List P4
  | _, [] => []
  | i, p :: r => pP p i :: zipP (i + 1) r
theorem zip_len : ∀ (L : List Pa) (i : Nat), (zipP i L).length = L.length
  | [], _ => rfl
  | _ :: r, i => by rw [zipP, List.length_cons, zip_len r, List.length_cons]
theorem zip_pa : ∀ (L : List Pa) (i : Nat), (zipP i L).map paP = L
  | [], _ => rfl
  | p :: r, i => by rw [zipP, List.map_cons, zip_pa r]; rfl
theorem zip_at : ∀ (L : List Pa) (i k : Nat) (h : k < (zipP i L).length), ((zipP i L)[k]).g = i + k
  | [], _, k, h => by simp [zipP] at h
  | _ :: _, i, 0, _ => rfl
  | _ :: r, i, k + 1, h => by
    have := zip_at r (i + 1) k (by simpa [zipP] using h)
    simp only [zipP, List.getElem_cons_succ]
    omega
def insZ (O : List P4) (p : P4) : List P4 := O.take (placeS (O.map paP) (paP p)) ++ p :: O.drop (placeS (O.map paP) (paP p))
theorem insZ_pa (O : List P4) (p : P4) : (insZ O p).map paP = insP (O.map paP) (paP p) := by
  unfold insZ insP
  rw [List.map_append, List.map_cons, List.map_take, List.map_drop]
theorem foldZ_pa : ∀ (L O : List P4), (L.foldl insZ O).map paP = (L.map paP).foldl insP (O.map paP)
  | [], _ => rfl
  | p :: r, O => by rw [List.foldl_cons, foldZ_pa r, List.map_cons, List.foldl_cons, insZ_pa]
theorem insZ_perm (O : List P4) (p : P4) : (insZ O p).Perm (p :: O) := by
  unfold insZ
  refine List.perm_middle.trans ?_
  rw [List.take_append_drop]
theorem foldZ_perm : ∀ (L O : List P4), (L.foldl insZ O).Perm (O ++ L)
  | [], O => by rw [List.foldl_nil, List.append_nil]
  | p :: r, O => by
    rw [List.foldl_cons]
    refine (foldZ_perm r _).trans ?_
    refine ((insZ_perm O p).append_right r).trans ?_
    rw [List.cons_append]
    exact List.perm_middle.symm
def RiseZ (O : List P4) : Prop := O.Pairwise fun a b => ltL a b = true
theorem ltL_is {a b : P4} : ltL a b = true ↔ a.s < b.s ∨ a.s = b.s ∧ a.g < b.g := by unfold ltL; rw [decide_eq_true_iff]
theorem place_z {O : List P4} (p : P4) (h : RiseZ O) : ∃ a, a ≤ O.length ∧ placeS (O.map paP) (paP p) = a ∧ (∀ x ∈ O.take a, x.s ≤ p.s) ∧ ∀ x ∈ O.drop a, p.s < x.s := by
  have key : ∀ a, a ≤ O.length → (∀ x ∈ O.drop a, p.s < x.s) → ∃ b, b ≤ O.length ∧ (∀ x ∈ O.take b, x.s ≤ p.s) ∧ (∀ x ∈ O.drop b, p.s < x.s) ∧ (b = 0 ∨ ∃ hb : b - 1 < O.length, O[b - 1].s ≤ p.s) := by
    intro a
    induction a with
    | zero => intro _ hd; exact ⟨0, Nat.zero_le _, by simp, hd, .inl rfl⟩
    | succ a ih =>
      intro ha hd
      by_cases hx : O[a].s ≤ p.s
      · refine ⟨a + 1, ha, fun x hx2 => ?_, hd, .inr ⟨by omega, hx⟩⟩
        rw [List.mem_take_iff_getElem] at hx2
        obtain ⟨i, hi, rfl⟩ := hx2
        by_cases e : i = a
        · subst e; exact hx
        · have := ltL_is.1 (List.pairwise_iff_getElem.1 h i a (by omega) (by omega) (by omega))
          omega
      · refine ih (by omega) fun x hx2 => ?_
        rw [List.drop_eq_getElem_cons (by omega)] at hx2
        rcases List.mem_cons.1 hx2 with rfl | hx2
        · omega
        · exact hd x hx2
  obtain ⟨b, hb, h1, h2, h3⟩ := key O.length (Nat.le_refl _) (by simp)
  refine ⟨b, hb, place_is (by rw [List.length_map]; exact hb) (fun x hx => ?_) ?_, h1, h2⟩
  · rw [← List.map_drop] at hx
    obtain ⟨y, hy, rfl⟩ := List.mem_map.1 hx
    exact h2 y hy
  · rcases h3 with h3 | ⟨h3, h4⟩
    · exact .inl h3
    · exact .inr ⟨by rw [List.length_map]; exact h3, by rw [List.getElem_map]; exact h4⟩
theorem insZ_rise {O : List P4} {p : P4} (h : RiseZ O) (hg : ∀ x ∈ O, x.g < p.g) : RiseZ (insZ O p) := by
  obtain ⟨a, ha, hp, h1, h2⟩ := place_z p h
  unfold insZ
  rw [hp]
  have hsp : RiseZ (O.take a ++ O.drop a) := by rw [List.take_append_drop]; exact h
  obtain ⟨q1, q2, q3⟩ := List.pairwise_append.1 hsp
  refine List.pairwise_append.2 ⟨q1, List.pairwise_cons.2 ⟨fun y hy => ltL_is.2 (.inl (h2 y hy)), q2⟩, fun x hx y hy => ?_⟩
  rcases List.mem_cons.1 hy with rfl | hy
  · have k1 := h1 x hx
    have k2 := hg x (List.mem_of_mem_take hx)
    exact ltL_is.2 (by omega)
  · exact q3 x hx y hy
theorem foldZ_rise : ∀ (L O : List P4), RiseZ O → (∀ x ∈ O, ∀ y ∈ L, x.g < y.g) → L.Pairwise (fun a b => a.g < b.g) → RiseZ (L.foldl insZ O)
  | [], _, h, _, _ => h
  | p :: r, O, h, hg, hp => by
    rw [List.pairwise_cons] at hp
    rw [List.foldl_cons]
    refine foldZ_rise r _ (insZ_rise h fun x hx => hg x hx p List.mem_cons_self) (fun x hx y hy => ?_) hp.2
    rcases List.mem_cons.1 ((insZ_perm O p).mem_iff.1 hx) with rfl | hx
    · exact hp.1 y hy
    · exact hg x hx y (List.mem_cons_of_mem _ hy)
theorem zip_rise (L : List Pa) (i : Nat) : (zipP i L).Pairwise (fun a b => a.g < b.g) := by
  rw [List.pairwise_iff_getElem]
  intro a b ha hb hab
  rw [zip_at, zip_at]; omega
theorem sorted_one {L : List Pa} {d' : Array P4} (hp : PermIn 0 L.length (zipP 0 L).toArray d') (hs : SortedIn ltL 0 L.length d') : d'.toList.map paP = L.foldl insP [] := by
  have hsz : d'.size = L.length := by have := hp.1; simpa [zip_len] using this
  have h3 := hp.2.2
  have e1 : (d'.extract 0 L.length).toList = d'.toList := by rw [← hsz]; simp
  have e2 : ((zipP 0 L).toArray.extract 0 L.length).toList = zipP 0 L := by rw [← zip_len L 0]; simp
  rw [e1, e2] at h3
  have hperm := foldZ_perm (zipP 0 L) []
  have hrise := foldZ_rise (zipP 0 L) [] List.Pairwise.nil (fun x hx => by cases hx) (zip_rise L 0)
  rw [List.nil_append] at hperm
  have hq := h3.trans hperm.symm
  have e : d'.toList = (zipP 0 L).foldl insZ [] := by
    refine List.Perm.eq_of_pairwise (le := fun a b => ltL b a = false) ?_ ?_ ?_ hq
    · intro a b ha hb h1 h2
      have ha2 := hq.mem_iff.1 ha
      rcases List.mem_iff_getElem.1 ha2 with ⟨i, hi, rfl⟩
      rcases List.mem_iff_getElem.1 hb with ⟨j, hj, rfl⟩
      rcases Nat.lt_trichotomy i j with c | c | c
      · have := List.pairwise_iff_getElem.1 hrise i j hi hj c
        rw [h2] at this; cases this
      · subst c; rfl
      · have := List.pairwise_iff_getElem.1 hrise j i hj hi c
        rw [h1] at this; cases this
    · rw [List.pairwise_iff_getElem]
      intro i j hi hj hij
      have hi' : i < d'.size := by simpa using hi
      have hj' : j < d'.size := by simpa using hj
      have := hs i j (Nat.zero_le _) hij (by omega)
      rw [getElem!_pos d' i hi', getElem!_pos d' j hj'] at this
      simpa using this
    · refine List.Pairwise.imp ?_ hrise
      intro a b h
      cases hc : ltL b a with
      | false => rfl
      | true =>
        have := ltL_swo.trans _ _ _ h hc
        rw [ltL_swo.irrefl] at this
        cases this
  rw [e, foldZ_pa, zip_pa]; rfl
end Go.Proofs.Ytfdibmcjjclgkaa.Tl
