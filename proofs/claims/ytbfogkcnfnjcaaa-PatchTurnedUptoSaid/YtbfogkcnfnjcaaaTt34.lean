/- Merged: TsK PaPl PaBe PaPl2 PaT. -/
import Derived.Test.YtbfogkcnfnjcaaaTt31
import Derived.Test.YtbfogkcnfnjcaaaTt33
import Derived.Test.YtbfogkcnfnjcaaaTt24
import Derived.Test.YtbfogkcnfnjcaaaTt16
import Derived.Test.YtbfogkcnfnjcaaaTt28
namespace Go.Proofs.Ytbfogkcnfnjcaaa.Tr
open Go.Proofs Go.RowKit Go.Lib
open Go.Proofs.Ytbfogkcnfnjcaaa.Utf
open Go.Proofs.Ytbfogkcnfnjcaaa.Sc
open Go.Proofs.Ytbfogkcnfnjcaaa.Re

theorem idx_app_mem {ns : List (List UInt8)} {nm : List UInt8} (r : List (List UInt8)) (h : nm ∈ ns) : (ns ++ r).idxOf nm = ns.idxOf nm := by
  induction ns with
  | nil => cases h
  | cons a t ih =>
    rw [List.cons_append, List.idxOf_cons, List.idxOf_cons]
    by_cases e : a = nm
    · simp [e]
    · have hb : (a == nm) = false := by simpa using e
      rcases List.mem_cons.1 h with k | k
      · exact absurd k.symm e
      · rw [hb, cond_false, cond_false, ih k]
theorem idx_app_not {ns : List (List UInt8)} {nm : List UInt8} (r : List (List UInt8)) (h : nm ∉ ns) : (ns ++ r).idxOf nm = ns.length + r.idxOf nm := by
  induction ns with
  | nil => simp
  | cons a t ih =>
    have e : a ≠ nm := fun e => h (by rw [e]; simp)
    have hb : (a == nm) = false := by simpa using e
    rw [List.cons_append, List.idxOf_cons, hb, cond_false, ih (fun k => h (by simp [k]))]
    simp; omega
theorem inN_mp (x : List (List UInt8) × List V) : inN (mpV x) = x.1 := rfl
theorem inM_mp (x : List (List UInt8) × List V) : inM (mpV x) = x.2 := rfl
theorem get_eq (v : V) (nm : List UInt8) : getV v nm = (inM v)[(inN v).idxOf nm]?.getD V0 := by
  unfold getV
  rw [List.getD_eq_getElem?_getD]
theorem with_same (v x : V) (nm : List UInt8) (hl : (inN v).length = (inM v).length) : nm ∈ inN (mpV (withN v nm, withM v nm x)) ∧ getV (mpV (withN v nm, withM v nm x)) nm = x := by
  rw [get_eq, inN_mp, inM_mp]
  unfold withN withM
  by_cases h : nm ∈ inN v
  · simp only [if_pos h]
    refine ⟨h, ?_⟩
    have hi := List.idxOf_lt_length_of_mem h
    rw [List.getElem?_set_self (by omega)]
    rfl
  · simp only [if_neg h]
    refine ⟨by simp, ?_⟩
    rw [idx_app_not [nm] h, hl]
    simp
theorem with_other (v x : V) (nm o : List UInt8) (hl : (inN v).length = (inM v).length) (ho : o ≠ nm) : (o ∈ inN (mpV (withN v nm, withM v nm x)) ↔ o ∈ inN v) ∧ getV (mpV (withN v nm, withM v nm x)) o = getV v o := by
  rw [get_eq, get_eq, inN_mp, inM_mp]
  unfold withN withM
  by_cases h : nm ∈ inN v
  · simp only [if_pos h]
    refine ⟨trivial, ?_⟩
    have hne : (inN v).idxOf nm ≠ (inN v).idxOf o := fun e => by
      have h1 := List.getElem_idxOf (List.idxOf_lt_length_of_mem h)
      by_cases hm : o ∈ inN v
      · have h2 := List.getElem_idxOf (List.idxOf_lt_length_of_mem hm)
        simp only [← e] at h2
        exact ho (h2.symm.trans h1)
      · rw [List.idxOf_eq_length hm] at e
        have := List.idxOf_lt_length_of_mem h
        omega
    rw [List.getElem?_set_ne hne]
  · simp only [if_neg h]
    refine ⟨by simp [ho], ?_⟩
    by_cases hm : o ∈ inN v
    · have hi := List.idxOf_lt_length_of_mem hm
      rw [idx_app_mem [nm] hm, List.getElem?_append_left (by omega)]
    · have hb : (nm == o) = false := by simpa using fun e => ho e.symm
      rw [idx_app_not [nm] hm, List.idxOf_eq_length hm, List.idxOf_cons, hb]
      rw [List.getElem?_eq_none (by simp; omega), List.getElem?_eq_none (by omega)]
theorem wo_gen (nm : List UInt8) : ∀ (ns : List (List UInt8)) (ms : List V), ns.length = ms.length → nm ∉ ((ns.zip ms).filter fun p => p.1 ≠ nm).map Prod.fst ∧
    ∀ o, o ≠ nm → (o ∈ ((ns.zip ms).filter fun p => p.1 ≠ nm).map Prod.fst ↔ o ∈ ns) ∧ (((ns.zip ms).filter fun p => p.1 ≠ nm).map Prod.snd)[(((ns.zip ms).filter fun p => p.1 ≠ nm).map Prod.fst).idxOf o]?.getD V0 = ms[ns.idxOf o]?.getD V0
  | [], ms, hl => by
    obtain rfl : ms = [] := List.eq_nil_of_length_eq_zero hl.symm
    simp
  | a :: ns, [], hl => by simp at hl
  | a :: ns, x :: ms, hl => by
    obtain ⟨i1, i2⟩ := wo_gen nm ns ms (by simpa using hl)
    by_cases e : a = nm
    · have hf : (((a :: ns).zip (x :: ms)).filter fun p => p.1 ≠ nm) = ((ns.zip ms).filter fun p => p.1 ≠ nm) := by simp [e]
      rw [hf]
      refine ⟨i1, fun o ho => ?_⟩
      obtain ⟨j1, j2⟩ := i2 o ho
      have hb : (a == o) = false := by rw [e]; simpa using fun e => ho e.symm
      refine ⟨by rw [j1, e]; simp [ho], ?_⟩
      rw [j2, List.idxOf_cons, hb, cond_false, List.getElem?_cons_succ]
    · have hf : (((a :: ns).zip (x :: ms)).filter fun p => p.1 ≠ nm) = (a, x) :: ((ns.zip ms).filter fun p => p.1 ≠ nm) := by simp [e]
      rw [hf]
      refine ⟨by rw [List.map_cons, List.mem_cons]; exact fun h => h.elim (fun h => e h.symm) i1, fun o ho => ?_⟩
      obtain ⟨j1, j2⟩ := i2 o ho
      refine ⟨by rw [List.map_cons, List.mem_cons, List.mem_cons, j1], ?_⟩
      rw [List.map_cons, List.map_cons, List.idxOf_cons, List.idxOf_cons]
      by_cases hb : (a == o) = true
      · simp [hb]
      · have hb' : (a == o) = false := by simpa using hb
        rw [hb', cond_false, cond_false, List.getElem?_cons_succ, List.getElem?_cons_succ, j2]
theorem wo_same (v : V) (nm : List UInt8) (hl : (inN v).length = (inM v).length) : nm ∉ inN (mpV (woN v nm, woM v nm)) := (wo_gen nm _ _ hl).1
theorem wo_other (v : V) (nm o : List UInt8) (hl : (inN v).length = (inM v).length) (ho : o ≠ nm) : (o ∈ inN (mpV (woN v nm, woM v nm)) ↔ o ∈ inN v) ∧ getV (mpV (woN v nm, woM v nm)) o = getV v o := by
  rw [get_eq, get_eq]
  exact (wo_gen nm _ _ hl).2 o ho
end Go.Proofs.Ytbfogkcnfnjcaaa.Tr
namespace Go.Proofs.Ytbfogkcnfnjcaaa.Pa
open Go.Proofs Go.RowKit
open Go.Proofs.Ytbfogkcnfnjcaaa.Utf
open Go.Proofs.Ytbfogkcnfnjcaaa.Sc
open Go.Proofs.Ytbfogkcnfnjcaaa.Re
open Go.Proofs.Ytbfogkcnfnjcaaa.Tr
open Go.Proofs.Ytbfogkcnfnjcaaa.Po
open Go.Proofs.Ytbfogkcnfnjcaaa.Em (lenV lenL szU szUL wfV wfL allV allL)

def getO (v : V) (p : List UInt8) : Option V := if p ∈ inN v then some (getV v p) else none
def folV : List (List UInt8) → V → Option V
  | [], v => some v
  | p :: r, v => (getO v p).bind (folV r)
def okP : List (List UInt8) → V → Prop
  | [], _ => False
  | [_], v => v.k = 6
  | p :: q :: r, v => v.k = 6 ∧ p ∈ inN v ∧ okP (q :: r) (getV v p)
def chgV : List (List UInt8) → V → V → V
  | [], _, v => v
  | [p], x, v => if x.k = 1 then mpV (woN v p, woM v p) else mpV (withN v p, withM v p x)
  | p :: q :: r, x, v => mpV (withN v p, withM v p (chgV (q :: r) x (getV v p)))
def stpV (v : V) (m : List (List UInt8) × V) : V := if (folV m.1 v).isSome = true ∨ m.2.k ≠ 1 then chgV m.1 m.2 v else v
def aplV (v : V) (L : List (List (List UInt8) × V)) : V := L.foldl stpV v
def apP (a b : List (List UInt8)) : Prop := ¬ a <+: b ∧ ¬ b <+: a
theorem apP.symm {a b : List (List UInt8)} (h : apP a b) : apP b a := ⟨h.2, h.1⟩

theorem okP_k : ∀ {ps : List (List UInt8)} {v : V}, okP ps v → v.k = 6
  | [], _, h => h.elim
  | [_], _, h => h
  | _ :: _ :: _, _, h => h.1
theorem inN_6 {v : V} {p : List UInt8} (h : p ∈ inN v) : v.k = 6 := by
  unfold inN at h
  split at h
  · assumption
  · cases h
theorem inM_len {v : V} (h : lenV v) : (inN v).length = (inM v).length := by
  cases v
  rw [lenV] at h
  unfold inN inM
  split
  · exact h.1
  · rfl
theorem getO_with {v : V} (hl : lenV v) (p o : List UInt8) (x : V) : getO (mpV (withN v p, withM v p x)) o = if o = p then some x else getO v o := by
  unfold getO
  by_cases e : o = p
  · subst e
    obtain ⟨h1, h2⟩ := with_same v x o (inM_len hl)
    rw [if_pos h1, if_pos rfl, h2]
  · obtain ⟨h1, h2⟩ := with_other v x p o (inM_len hl) e
    rw [if_neg e, h2]
    by_cases h : o ∈ inN v
    · rw [if_pos (h1.2 h), if_pos h]
    · rw [if_neg (fun k => h (h1.1 k)), if_neg h]
theorem getO_wo {v : V} (hl : lenV v) (p o : List UInt8) : getO (mpV (woN v p, woM v p)) o = if o = p then none else getO v o := by
  unfold getO
  by_cases e : o = p
  · subst e
    rw [if_neg (wo_same v o (inM_len hl)), if_pos rfl]
  · obtain ⟨h1, h2⟩ := wo_other v p o (inM_len hl) e
    rw [if_neg e, h2]
    by_cases h : o ∈ inN v
    · rw [if_pos (h1.2 h), if_pos h]
    · rw [if_neg (fun k => h (h1.1 k)), if_neg h]
theorem step_6 {v : V} (h : v.k = 6) (p : List UInt8) : stepV v p = getO v p := by unfold stepV getO; rw [if_pos h]
theorem chg_k : ∀ {ps : List (List UInt8)} {x v : V}, v.k = 6 → (chgV ps x v).k = 6
  | [], _, _, h => h
  | [_], x, v, _ => by rw [chgV]; split <;> rfl
  | _ :: _ :: _, _, _, _ => rfl
theorem lenL_mem {v : V} : ∀ {l : List V}, lenL l → v ∈ l → lenV v
  | [], _, h => by cases h
  | a :: r, h, hv => by
    rw [lenL] at h
    rcases List.mem_cons.1 hv with rfl | hv
    · exact h.1
    · exact lenL_mem h.2 hv
theorem lenL_of : ∀ {l : List V}, (∀ v ∈ l, lenV v) → lenL l
  | [], _ => by rw [lenL]; trivial
  | a :: r, h => by rw [lenL]; exact ⟨h a (by simp), lenL_of fun v hv => h v (by simp [hv])⟩
theorem get_mem {v : V} (hl : lenV v) {p : List UInt8} (h : p ∈ inN v) : getV v p ∈ v.ms := by
  have h1 := List.idxOf_lt_length_of_mem h
  rw [inM_len hl] at h1
  rw [getV_at h1 rfl]
  exact inM_mem (List.getElem_mem h1)
theorem lenV_get {v : V} (hl : lenV v) {p : List UInt8} (h : p ∈ inN v) : lenV (getV v p) := by
  refine lenL_mem (l := v.ms) ?_ (get_mem hl h)
  cases v; rw [lenV] at hl; exact hl.2.2
theorem set_mem' {α : Type} {l : List α} {i : Nat} {x y : α} (h : y ∈ l.set i x) : y = x ∨ y ∈ l := by
  rcases List.mem_or_eq_of_mem_set h with h | h
  · exact .inr h
  · exact .inl h
theorem with_mem {v x y : V} {p : List UInt8} (h : y ∈ withM v p x) : y = x ∨ y ∈ v.ms := by
  unfold withM at h
  split at h
  · rcases set_mem' h with h | h
    · exact .inl h
    · exact .inr (inM_mem h)
  · rcases List.mem_append.1 h with h | h
    · exact .inr (inM_mem h)
    · exact .inl (List.mem_singleton.1 h)
theorem wo_mem {v y : V} {p : List UInt8} (h : y ∈ woM v p) : y ∈ v.ms := by
  unfold woM at h
  obtain ⟨q, hq, rfl⟩ := List.mem_map.1 h
  exact inM_mem (List.of_mem_zip (List.mem_filter.1 hq).1).2
theorem with_len {v : V} (hl : lenV v) (p : List UInt8) (x : V) : (withN v p).length = (withM v p x).length := by
  have := inM_len hl
  unfold withN withM
  split
  · rw [List.length_set]; exact this
  · rw [List.length_append, List.length_append, this]; rfl
theorem wo_len (v : V) (p : List UInt8) : (woN v p).length = (woM v p).length := by unfold woN woM; rw [List.length_map, List.length_map]
theorem lenV_mp {ns : List (List UInt8)} {ms : List V} (h : ns.length = ms.length) (h2 : ∀ y ∈ ms, lenV y) : lenV (mpV (ns, ms)) := by
  unfold mpV
  rw [lenV]
  exact ⟨h, by rw [lenL]; trivial, lenL_of h2⟩
theorem lenV_ms {v : V} (hl : lenV v) : ∀ y ∈ v.ms, lenV y := by
  intro y hy
  refine lenL_mem (l := v.ms) ?_ hy
  cases v; rw [lenV] at hl; exact hl.2.2
theorem lenV_with {v x : V} (hl : lenV v) (hx : lenV x) (p : List UInt8) : lenV (mpV (withN v p, withM v p x)) := lenV_mp (with_len hl p x) fun y hy => by
  rcases with_mem hy with rfl | h
  · exact hx
  · exact lenV_ms hl y h
theorem lenV_wo {v : V} (hl : lenV v) (p : List UInt8) : lenV (mpV (woN v p, woM v p)) := lenV_mp (wo_len v p) fun y hy => lenV_ms hl y (wo_mem hy)
theorem lenV_chg : ∀ {ps : List (List UInt8)} {x v : V}, okP ps v → lenV v → lenV x → lenV (chgV ps x v)
  | [], _, _, h, _, _ => h.elim
  | [p], x, v, _, hv, hx => by
    rw [chgV]
    split
    · exact lenV_wo hv p
    · exact lenV_with hv hx p
  | p :: q :: r, x, v, h, hv, hx => lenV_with hv (lenV_chg h.2.2 (lenV_get hv h.2.1) hx) p

theorem fol_self : ∀ {ps : List (List UInt8)} {x v : V}, okP ps v → lenV v → folV ps (chgV ps x v) = if x.k = 1 then none else some x
  | [], _, _, h, _ => h.elim
  | [p], x, v, _, hv => by
    rw [chgV, folV]
    split
    · rw [getO_wo hv, if_pos rfl]; rfl
    · rw [getO_with hv, if_pos rfl]; rfl
  | p :: q :: r, x, v, h, hv => by
    rw [chgV, folV, getO_with hv, if_pos rfl]
    exact fol_self h.2.2 (lenV_get hv h.2.1)
theorem ap_cons {p : List UInt8} {a b : List (List UInt8)} (h : apP (p :: a) (p :: b)) : apP a b :=
  ⟨fun k => h.1 ((List.prefix_cons_inj p).2 k), fun k => h.2 ((List.prefix_cons_inj p).2 k)⟩
theorem getO_chg {ps : List (List UInt8)} {x v : V} (hv : lenV v) (p o : List UInt8) (e : o ≠ p) : getO (chgV (p :: ps) x v) o = getO v o := by
  cases ps with
  | nil =>
    rw [chgV]
    split
    · rw [getO_wo hv, if_neg e]
    · rw [getO_with hv, if_neg e]
  | cons q r => rw [chgV, getO_with hv, if_neg e]
theorem getO_in {v : V} {p : List UInt8} (h : p ∈ inN v) : getO v p = some (getV v p) := if_pos h
theorem getO_mem {v y : V} {p : List UInt8} (h : getO v p = some y) : p ∈ inN v ∧ getV v p = y := by
  unfold getO at h
  split at h
  · rename_i hm; injection h with h; exact ⟨hm, h⟩
  · cases h
theorem okP_cons {p : List UInt8} {q : List (List UInt8)} {v : V} (hq : q ≠ []) : okP (p :: q) v ↔ ∃ y, getO v p = some y ∧ okP q y := by
  cases q with
  | nil => exact absurd rfl hq
  | cons a r =>
    constructor
    · intro h; exact ⟨_, getO_in h.2.1, h.2.2⟩
    · rintro ⟨y, h1, h2⟩
      obtain ⟨h3, rfl⟩ := getO_mem h1
      exact ⟨inN_6 h3, h3, h2⟩
theorem ok_other : ∀ {ps ls : List (List UInt8)} {x v : V}, okP ps v → lenV v → apP ps ls → okP ls v → okP ls (chgV ps x v)
  | [], _, _, _, h, _, _, _ => h.elim
  | p :: r, [], _, _, _, _, _, h => h.elim
  | p :: r, [o], x, v, h, hv, ha, ho => chg_k (okP_k h)
  | p :: r, o :: a :: t, x, v, h, hv, ha, ho => by
    rw [okP_cons (by simp)] at ho ⊢
    obtain ⟨y, h1, h2⟩ := ho
    by_cases e : o = p
    · subst e
      cases r with
      | nil => exact absurd ((List.prefix_cons_inj o).2 List.nil_prefix) ha.1
      | cons q r =>
        rw [getO_in h.2.1] at h1
        injection h1 with h1
        subst h1
        refine ⟨_, by rw [chgV, getO_with hv, if_pos rfl], ok_other h.2.2 (lenV_get hv h.2.1) (ap_cons ha) h2⟩
    · exact ⟨y, by rw [getO_chg hv p o e]; exact h1, h2⟩
theorem ok_self : ∀ {ps : List (List UInt8)} {x v : V}, okP ps v → lenV v → okP ps (chgV ps x v)
  | [], _, _, h, _ => h.elim
  | [p], x, v, h, _ => chg_k h
  | p :: q :: r, x, v, h, hv => by
    rw [okP_cons (by simp)]
    exact ⟨_, by rw [chgV, getO_with hv, if_pos rfl], ok_self h.2.2 (lenV_get hv h.2.1)⟩

theorem lenV_stp {m : List (List UInt8) × V} {v : V} (h : okP m.1 v) (hv : lenV v) (hx : lenV m.2) : lenV (stpV v m) := by
  unfold stpV; split
  · exact lenV_chg h hv hx
  · exact hv
theorem stp_ok {m : List (List UInt8) × V} {v : V} (h : okP m.1 v) (hv : lenV v) : okP m.1 (stpV v m) := by
  unfold stpV; split
  · exact ok_self h hv
  · exact h
theorem stp_ok_other {m : List (List UInt8) × V} {ls : List (List UInt8)} {v : V} (h : okP m.1 v) (hv : lenV v) (ha : apP m.1 ls) (hl : okP ls v) : okP ls (stpV v m) := by
  unfold stpV; split
  · exact ok_other h hv ha hl
  · exact hl
def Fit (v : V) (L : List (List (List UInt8) × V)) : Prop := (∀ m ∈ L, okP m.1 v ∧ lenV m.2) ∧ L.Pairwise fun a b => apP a.1 b.1
theorem Fit.head {v : V} {m : List (List UInt8) × V} {L : List (List (List UInt8) × V)} (h : Fit v (m :: L)) : okP m.1 v ∧ lenV m.2 := h.1 m (by simp)
theorem Fit.next {v : V} {m : List (List UInt8) × V} {L : List (List (List UInt8) × V)} (hv : lenV v) (h : Fit v (m :: L)) : Fit (stpV v m) L ∧ lenV (stpV v m) := by
  obtain ⟨h1, h2⟩ := h
  rw [List.pairwise_cons] at h2
  have hm := h1 m (by simp)
  exact ⟨⟨fun n hn => ⟨stp_ok_other hm.1 hv (h2.1 n hn) (h1 n (by simp [hn])).1, (h1 n (by simp [hn])).2⟩, h2.2⟩, lenV_stp hm.1 hv hm.2⟩
theorem apl_len : ∀ (L : List (List (List UInt8) × V)) (v : V), Fit v L → lenV v → lenV (aplV v L)
  | [], _, _, hv => hv
  | _ :: L, _, h, hv => apl_len L _ (h.next hv).1 (h.next hv).2
theorem szU_eq' (v : V) : szU v = 1 + v.s.length + szUL v.l + (v.ns.map fun x => 1 + x.length).sum + szUL v.ms := by cases v; rw [szU]; rfl
theorem szUL_app : ∀ a b : List V, szUL (a ++ b) = szUL a + szUL b
  | [], b => by rw [List.nil_append, szUL]; omega
  | v :: r, b => by rw [List.cons_append, szUL, szUL, szUL_app r b]; omega
theorem szUL_mem {v : V} : ∀ {l : List V}, v ∈ l → szU v ≤ szUL l
  | [], h => by cases h
  | a :: r, h => by
    rw [szUL]
    rcases List.mem_cons.1 h with rfl | h
    · omega
    · have := szUL_mem h; omega
theorem szUL_set : ∀ (l : List V) (i : Nat) (x : V) (h : i < l.length), szUL (l.set i x) + szU l[i] = szUL l + szU x
  | [], _, _, h => by simp at h
  | a :: r, 0, x, _ => by rw [List.set_cons_zero, szUL, szUL, List.getElem_cons_zero]; omega
  | a :: r, i + 1, x, h => by
    have := szUL_set r i x (by simpa using h)
    rw [List.set_cons_succ, szUL, szUL, List.getElem_cons_succ]; omega
theorem szUL_in (v : V) : szUL (inM v) ≤ szUL v.ms ∧ ((inN v).map fun x => 1 + x.length).sum ≤ (v.ns.map fun x => 1 + x.length).sum := by
  unfold inM inN
  split
  · exact ⟨Nat.le_refl _, Nat.le_refl _⟩
  · exact ⟨by rw [szUL]; omega, by simp⟩
theorem szU_mp (x : List (List UInt8) × List V) : szU (mpV x) = 1 + (x.1.map fun x => 1 + x.length).sum + szUL x.2 := by
  rw [szU_eq']
  simp [mpV, V.s, V.l, V.ns, V.ms, szUL]
theorem szU_with {v x : V} (hv : lenV v) (p : List UInt8) (h : p ∈ inN v) : szU (mpV (withN v p, withM v p x)) + szU (getV v p) ≤ szU v + szU x := by
  have h1 := List.idxOf_lt_length_of_mem h
  rw [inM_len hv] at h1
  have h2 := szUL_set (inM v) _ x h1
  rw [← getV_at h1 rfl] at h2
  have h3 := szUL_in v
  rw [szU_mp, szU_eq' v]
  unfold withN withM
  rw [if_pos h, if_pos h]
  simp only
  omega
theorem szU_new {v x : V} (p : List UInt8) (h : p ∉ inN v) : szU (mpV (withN v p, withM v p x)) ≤ szU v + szU x + 1 + p.length := by
  have h3 := szUL_in v
  rw [szU_mp, szU_eq' v]
  unfold withN withM
  rw [if_neg h, if_neg h]
  simp only [List.map_append, List.sum_append, szUL_app, List.map_cons, List.map_nil, List.sum_cons, List.sum_nil, szUL]
  omega
theorem zip_filter_le (p : List UInt8) : ∀ (ns : List (List UInt8)) (ms : List V), ((((ns.zip ms).filter fun q => q.1 ≠ p).map Prod.fst).map fun x => 1 + x.length).sum ≤ (ns.map fun x => 1 + x.length).sum ∧ szUL (((ns.zip ms).filter fun q => q.1 ≠ p).map Prod.snd) ≤ szUL ms
  | [], ms => by simp [szUL]
  | _ :: _, [] => by simp [szUL]
  | a :: ns, v :: ms => by
    obtain ⟨h1, h2⟩ := zip_filter_le p ns ms
    rw [List.zip_cons_cons, List.filter_cons]
    split
    · simp only [List.map_cons, List.sum_cons, szUL] at h1 h2 ⊢
      omega
    · simp only [List.map_cons, List.sum_cons, szUL]
      omega
theorem szU_wo (v : V) (p : List UInt8) : szU (mpV (woN v p, woM v p)) ≤ szU v := by
  have h3 := szUL_in v
  obtain ⟨h1, h2⟩ := zip_filter_le p (inN v) (inM v)
  rw [szU_mp, szU_eq' v]
  unfold woN woM
  simp only
  omega
theorem szU_chg : ∀ {ps : List (List UInt8)} {x v : V}, okP ps v → lenV v → szU (chgV ps x v) ≤ szU v + szU x + 1 + (ps.map List.length).sum
  | [], _, _, h, _ => h.elim
  | [p], x, v, h, hv => by
    rw [chgV]
    split
    · have := szU_wo v p; omega
    · by_cases hp : p ∈ inN v
      · have := szU_with (x := x) hv p hp; omega
      · have := szU_new (x := x) p hp; simp; omega
  | p :: q :: r, x, v, h, hv => by
    have h1 := szU_chg (x := x) h.2.2 (lenV_get hv h.2.1)
    have h2 := szU_with (x := chgV (q :: r) x (getV v p)) hv p h.2.1
    rw [chgV]
    simp only [List.map_cons, List.sum_cons] at h1 ⊢
    omega
theorem szU_stp {m : List (List UInt8) × V} {v : V} (h : okP m.1 v) (hv : lenV v) : szU (stpV v m) ≤ szU v + (szU m.2 + 1 + (m.1.map List.length).sum) := by
  unfold stpV; split
  · have := szU_chg (x := m.2) h hv; omega
  · omega
theorem szU_apl : ∀ (L : List (List (List UInt8) × V)) (v : V), Fit v L → lenV v → szU (aplV v L) ≤ szU v + (L.map fun m => szU m.2 + 1 + (m.1.map List.length).sum).sum
  | [], _, _, _ => by simp [aplV]
  | m :: L, v, h, hv => by
    obtain ⟨h1, h2⟩ := h.next hv
    have a := szU_stp h.head.1 hv
    have b := szU_apl L (stpV v m) h1 h2
    unfold aplV at b ⊢
    rw [List.foldl_cons, List.map_cons, List.sum_cons]
    omega
theorem wfL_mem {v : V} : ∀ {l : List V}, wfL l → v ∈ l → wfV v
  | [], _, h => by cases h
  | a :: r, h, hv => by
    rw [wfL] at h
    rcases List.mem_cons.1 hv with rfl | hv
    · exact h.1
    · exact wfL_mem h.2 hv
theorem wfL_of : ∀ {l : List V}, (∀ v ∈ l, wfV v) → wfL l
  | [], _ => by rw [wfL]; trivial
  | a :: r, h => by rw [wfL]; exact ⟨h a (by simp), wfL_of fun v hv => h v (by simp [hv])⟩
theorem wfV_ms {v : V} (h : wfV v) : ∀ y ∈ v.ms, wfV y := by
  intro y hy
  refine wfL_mem (l := v.ms) ?_ hy
  cases v; rw [wfV] at h; exact h.2.2.2
theorem wfV_mp {ns : List (List UInt8)} {ms : List V} (h : ∀ y ∈ ms, wfV y) : wfV (mpV (ns, ms)) := by
  unfold mpV
  rw [wfV]
  exact ⟨by decide, by decide, by rw [wfL]; trivial, wfL_of h⟩
theorem wfV_chg : ∀ {ps : List (List UInt8)} {x v : V}, okP ps v → lenV v → wfV v → wfV x → wfV (chgV ps x v)
  | [], _, _, h, _, _, _ => h.elim
  | [p], x, v, h, hv, wv, wx => by
    rw [chgV]
    split
    · exact wfV_mp fun y hy => wfV_ms wv y (wo_mem hy)
    · exact wfV_mp fun y hy => by
        rcases with_mem hy with rfl | hy
        · exact wx
        · exact wfV_ms wv y hy
  | p :: q :: r, x, v, h, hv, wv, wx => by
    rw [chgV]
    refine wfV_mp fun y hy => ?_
    rcases with_mem hy with rfl | hy
    · exact wfV_chg h.2.2 (lenV_get hv h.2.1) (wfV_ms wv _ (get_mem hv h.2.1)) wx
    · exact wfV_ms wv y hy
theorem wfV_apl : ∀ (L : List (List (List UInt8) × V)) (v : V), Fit v L → lenV v → wfV v → (∀ m ∈ L, wfV m.2) → wfV (aplV v L)
  | [], _, _, _, h, _ => h
  | m :: L, v, h, hv, wv, wL => by
    obtain ⟨h1, h2⟩ := h.next hv
    refine wfV_apl L (stpV v m) h1 h2 ?_ (fun n hn => wL n (by simp [hn]))
    unfold stpV; split
    · exact wfV_chg h.head.1 hv wv (wL m (by simp))
    · exact wv
end Go.Proofs.Ytbfogkcnfnjcaaa.Pa
namespace Go.Proofs.Ytbfogkcnfnjcaaa.Pa
open Go.Proofs Go.RowKit Go.Lib
open Go.Proofs.Ytbfogkcnfnjcaaa.Utf
open Go.Proofs.Ytbfogkcnfnjcaaa.Sc
open Go.Proofs.Ytbfogkcnfnjcaaa.Re
open Go.Proofs.Ytbfogkcnfnjcaaa.Tr

def bgB (a b : List UInt8) : Bool := a.isPrefixOf b && (match b.drop a.length with | [] => true | c :: _ => c == 47)
theorem bgB_app {a r : List UInt8} (h : r = [] ∨ ∃ t, r = 47 :: t) : bgB a (a ++ r) = true := by
  unfold bgB
  rw [List.drop_left, Bool.and_eq_true]
  refine ⟨List.isPrefixOf_iff_prefix.2 (List.prefix_append a r), ?_⟩
  rcases h with rfl | ⟨t, rfl⟩ <;> rfl
theorem bgB_of {a b : List UInt8} (h : bgB a b = true) : ∃ r, b = a ++ r ∧ (r = [] ∨ ∃ t, r = 47 :: t) := by
  unfold bgB at h
  rw [Bool.and_eq_true] at h
  obtain ⟨r, rfl⟩ := List.isPrefixOf_iff_prefix.1 h.1
  refine ⟨r, rfl, ?_⟩
  have h2 := h.2
  rw [List.drop_left] at h2
  cases r with
  | nil => exact .inl rfl
  | cons c t =>
    right
    refine ⟨t, ?_⟩
    have : c = 47 := by simpa using h2
    rw [this]

theorem pre_take {a b : List UInt8} : (a.isPrefixOf b) = (decide (a.length ≤ b.length) && (b.take a.length == a)) := by
  rw [Bool.eq_iff_iff, List.isPrefixOf_iff_prefix, Bool.and_eq_true, decide_eq_true_iff, beq_iff_eq]
  constructor
  · rintro ⟨r, rfl⟩
    exact ⟨by simp, by simp⟩
  · rintro ⟨_, h⟩
    exact ⟨b.drop a.length, by conv => lhs; lhs; rw [← h]
                               exact List.take_append_drop _ _⟩

theorem ext_take (s : ByteArray) (n : Nat) : (s.extract 0 n).toList = s.data.toList.take n := by
  rw [ByteArray.toList_eq, ByteArray.data_extract]; simp
theorem ext_drop (s : ByteArray) (n : Nat) : (s.extract n s.size).data.toList = s.data.toList.drop n := by
  rw [ByteArray.data_extract]; simp only [Array.toList_extract, List.extract]; exact List.take_of_length_le (by rw [List.length_drop, len_data]; exact Nat.le_refl _)

set_option maxRecDepth 100000 in
set_option maxHeartbeats 1000000 in
theorem sHas_any (s p : ByteArray) (w : World) :
    Calls Try.prog 96 #[.string s, .string p] w fun e w' => e = .returned (.bool (p.data.toList.isPrefixOf s.data.toList)) ∧ Below w.heap.size w w' := by
  rw [pre_take, len_data, len_data]
  by_cases h : p.size ≤ s.size
  · have t1 : decide ((p.size : Int) ≤ (s.size : Int)) = true := decide_eq_true (by omega)
    have t2 : decide (p.size ≤ s.size) = true := decide_eq_true h
    have k0 : (0 : Int) ≤ (p.size : Int) := by omega
    have k1 : (p.size : Int) ≤ (s.size : Int) := by omega
    go_enter Try.func96, Try.ntmps96
    go_wp2
    go_ret
    refine ⟨?_, Below.refl _ _⟩
    rw [t2, Bool.true_and]
    refine ret_bool ?_
    rw [ext_take, ByteArray.toList_eq]
  · have t1 : decide ((p.size : Int) ≤ (s.size : Int)) = false := decide_eq_false (by omega)
    have t2 : decide (p.size ≤ s.size) = false := decide_eq_false h
    go_enter Try.func96, Try.ntmps96
    go_wp2
    go_ret
    refine ⟨?_, Below.refl _ _⟩
    rw [t2, Bool.false_and]
    rfl

set_option maxRecDepth 100000 in
set_option maxHeartbeats 1000000 in
theorem sCut_any (s p : ByteArray) (w : World) :
    Calls Try.prog 87 #[.string s, .string p] w fun e w' => e = .returned (.tuple #[.string (if p.data.toList.isPrefixOf s.data.toList = true then s.extract p.size s.size else s), .bool (p.data.toList.isPrefixOf s.data.toList)]) ∧ Below w.heap.size w w' := by
  have HH := Lib.hid (fun (W : World) => sHas_any s p W)
  have HP := Lib.hid (pre_take (a := p.data.toList) (b := s.data.toList))
  generalize p.data.toList.isPrefixOf s.data.toList = b at *
  cases b with
  | false =>
    go_enter Try.func87, Try.ntmps87
    go_wp2_with fail
    refine (HH.out _).mono ?_
    rintro e w1 ⟨rfl, hb1⟩
    have HB1 := Lib.hid hb1
    clear hb1
    go_wp2
    go_ret2
    exact ⟨rfl, HB1.out⟩
  | true =>
    have h := HP.out
    rw [eq_comm, Bool.and_eq_true, decide_eq_true_iff, len_data, len_data] at h
    have k0 : (0 : Int) ≤ (p.size : Int) := by omega
    have k1 : (p.size : Int) ≤ (s.size : Int) := by omega
    clear h
    go_enter Try.func87, Try.ntmps87
    go_wp2_with fail
    refine (HH.out _).mono ?_
    rintro e w1 ⟨rfl, hb1⟩
    have HB1 := Lib.hid hb1
    clear hb1
    go_wp2
    go_ret2
    exact ⟨rfl, HB1.out⟩

set_option maxRecDepth 100000 in
set_option maxHeartbeats 1000000 in
theorem cut_any (s p : ByteArray) (w : World) :
    Calls Try.prog 72 #[.string s, .string p] w fun e w' => e = .returned (.tuple #[.string (if p.data.toList.isPrefixOf s.data.toList = true then s.extract p.size s.size else s), .bool (p.data.toList.isPrefixOf s.data.toList)]) ∧ Below w.heap.size w w' := by
  have HH := Lib.hid (fun (W : World) => sCut_any s p W)
  generalize (if p.data.toList.isPrefixOf s.data.toList = true then s.extract p.size s.size else s) = X at *
  generalize p.data.toList.isPrefixOf s.data.toList = b at *
  go_enter Try.func72, Try.ntmps72
  go_wp2_with fail
  refine (HH.out _).mono ?_
  rintro e w1 ⟨rfl, hb1⟩
  have HB1 := Lib.hid hb1
  clear hb1
  go_wp2
  go_ret2
  exact ⟨rfl, HB1.out⟩

set_option maxRecDepth 100000 in
set_option maxHeartbeats 1000000 in
theorem begins_any (a b : ByteArray) (w : World) :
    Calls Try.prog 49 #[.string a, .string b] w (Gives (.bool (bgB a.data.toList b.data.toList)) w) := by
  have HH := Lib.hid (fun (W : World) => cut_any b a W)
  have hbg : bgB a.data.toList b.data.toList = (a.data.toList.isPrefixOf b.data.toList && (match b.data.toList.drop a.data.toList.length with | [] => true | c :: _ => c == 47)) := rfl
  rw [len_data] at hbg
  generalize bgB a.data.toList b.data.toList = B at hbg ⊢
  cases hp : a.data.toList.isPrefixOf b.data.toList with
  | false =>
    rw [hp] at HH hbg
    rw [Bool.false_and] at hbg
    subst hbg
    rw [if_neg (by simp)] at HH
    clear hp
    go_enter Try.func49, Try.ntmps49
    go_wp2_with fail
    refine (HH.out _).mono ?_
    rintro e w1 ⟨rfl, hb1⟩
    have HB1 := Lib.hid hb1
    clear hb1
    go_wp2
    go_ret
    exact ⟨rfl, HB1.out⟩
  | true =>
    rw [hp] at HH hbg
    rw [Bool.true_and, ← ext_drop] at hbg
    rw [if_pos rfl] at HH
    generalize b.extract a.size b.size = r at HH hbg
    clear hp
    by_cases h0 : r.data.toList = []
    · have t0 : (r.toList == []) = true := by rw [ByteArray.toList_eq, h0]; rfl
      rw [h0] at hbg
      subst hbg
      clear h0
      go_enter Try.func49, Try.ntmps49
      go_wp2_with fail
      refine (HH.out _).mono ?_
      rintro e w1 ⟨rfl, hb1⟩
      have HB1 := Lib.hid hb1
      clear hb1
      go_wp2
      go_ret
      exact ⟨rfl, HB1.out⟩
    · have t0 : (r.toList == []) = false := by rw [ByteArray.toList_eq, beq_eq_false_iff_ne]; exact h0
      have h0l : 0 < r.size := by
        rw [← len_data]
        exact List.length_pos_iff.2 h0
      have hb : byt r.data.toList 0 = ((r[0]'h0l).toNat : Int) := byt_get r 0 h0l
      obtain ⟨c, t, hct⟩ : ∃ c t, r.data.toList = c :: t := List.exists_cons_of_ne_nil h0
      rw [hct] at hbg hb
      have hc : ((r[0]'h0l).toNat : Int) = (c.toNat : Int) := hb.symm
      have HC := Lib.hid hc
      simp only at hbg
      clear hb hct h0 hc
      by_cases h7 : c = 47
      · subst h7
        have t1 : (((r[0]'h0l).toNat : Int) == 47) = true := by rw [HC.out]; rfl
        have t2 : ((r[0]'h0l).toNat : Int) = 47 := HC.out
        obtain rfl : B = true := hbg
        go_enter Try.func49, Try.ntmps49
        go_wp2_with fail
        refine (HH.out _).mono ?_
        rintro e w1 ⟨rfl, hb1⟩
        have HB1 := Lib.hid hb1
        clear hb1
        go_wp2
        go_ret
        exact ⟨rfl, HB1.out⟩
      · have t1 : (((r[0]'h0l).toNat : Int) == 47) = false := by
          rw [HC.out, beq_eq_false_iff_ne]
          intro e
          exact h7 (UInt8.toNat_inj.1 (by show c.toNat = 47; omega))
        obtain rfl : B = false := by rw [hbg]; simpa using h7
        clear h7 hbg
        go_enter Try.func49, Try.ntmps49
        go_wp2_with fail
        refine (HH.out _).mono ?_
        rintro e w1 ⟨rfl, hb1⟩
        have HB1 := Lib.hid hb1
        clear hb1
        go_wp2
        go_ret
        exact ⟨rfl, HB1.out⟩

def apN (b a : List UInt8) : Prop := bgB a b = false ∧ bgB b a = false
def apI (d : List M6) (k : Nat) : Prop := ∀ i j (hi : i < d.length) (hj : j < d.length), i < k → j < i → apN d[j].nm d[i].nm
theorem apI_pw {d : List M6} : apI d d.length ↔ (d.map M6.nm).Pairwise apN := by
  rw [List.pairwise_iff_getElem]
  constructor
  · intro h i j hi hj hij
    rw [List.getElem_map, List.getElem_map]
    exact h j i (by simpa using hj) (by simpa using hi) (by simpa using hj) hij
  · intro h i j hi hj _ hji
    have := h j i (by simpa using hj) (by simpa using hi) hji
    rwa [List.getElem_map, List.getElem_map] at this

set_option maxRecDepth 100000 in
set_option maxHeartbeats 1000000 in
theorem areApart_any (d : List M6) (A : Option Addr) (c : Nat) (w : World) (hd : RawM w w.heap.size A d) (hc : d.length ≤ c) (hz : d.length < 1000000) :
    Calls Try.prog 36 #[.slice A d.length c] w fun e w' => (∃ b : Bool, e = .returned (.bool b) ∧ (b = true ↔ (d.map M6.nm).Pairwise apN)) ∧ Below w.heap.size w w' := by
  have HD := Lib.hid hd
  have HPW := Lib.hid (apI_pw (d := d))
  obtain ⟨len, hln⟩ : ∃ len, d.length = len := ⟨_, rfl⟩
  have HLN := Lib.hid hln
  rw [hln] at hz hc HPW ⊢
  clear hd hln
  have HZ := Lib.hid hz
  have HC := Lib.hid hc
  clear hz hc
  go_enter Try.func36, Try.ntmps36
  go_wp2_with fail
  go_loopw [9] (fun si wr => ∃ k : Nat, si = .int .i64 k ∧ k ≤ len ∧ Aside (apI d k) ∧ Aside (Below w.heap.size w wr)) (fun si _ => len - (intOf si).toNat)
  case atStart => exact ⟨0, rfl, by omega, (show apI d 0 from fun i j hi hj h => by omega), (show Below _ _ _ from Below.refl _ _)⟩
  case round =>
    obtain ⟨k, rfl, hk, hap, hbel⟩ := hrel
    have hz := HZ.out
    have hc := HC.out
    by_cases hlt : k < len
    · have t1 : decide ((k : Int) < (len : Int)) = true := decide_eq_true (by omega)
      have t2 : decide (k < len) = true := decide_eq_true hlt
      have k0 : (0 : Int) ≤ (k : Int) := by omega
      have k1 : (k : Int) < (len : Int) := by omega
      have k2 : ((k : Int)).toNat = k := by omega
      have hkl : k < d.length := by rw [HLN.out]; exact hlt
      obtain ⟨b, off, rfl, hb, hcl⟩ := HD.out (by omega)
      have HCL := Lib.hid hcl
      have hx := (hcl k hkl).keep (W' := wr) (fun j => hbel.out.cell (p := ⟨b, j, none⟩) hb)
      have HBB := Lib.hid hb
      obtain ⟨x, hxe⟩ : ∃ x, d[k] = x := ⟨_, rfl⟩
      have HXE := Lib.hid hxe
      rw [hxe] at hx
      clear hcl hb hxe
      obtain ⟨xx, xk, xn, xs, xA, xl, xc, xB, xm, xd⟩ := x
      simp only [M6At] at hx
      obtain ⟨a0, a1, a2, a3, a4, a5⟩ := hx
      obtain ⟨X, hX⟩ : ∃ X, strOf xx = X := ⟨_, rfl⟩
      have HX := Lib.hid hX
      rw [hX] at a0
      clear hX
      clear a1 a2 a3 a4 a5
      obtain ⟨wo, hwo⟩ : ∃ wo, wo = wr := ⟨_, rfl⟩
      subst hwo
      obtain ⟨W1, hW1⟩ : ∃ W1, W1 = wo.alloc (.cells #[.string X, .int .i64 xk, .int .i64 xn, .string xs, .slice xA xl xc, .slice xB xm xd] 36) := ⟨_, rfl⟩
      have HW1 := Lib.hid hW1
      have HX1 := Lib.hid (show W1.cell? ⟨wo.heap.size, 0, none⟩ = some (.string X) by rw [hW1]; unfold World.cell?; rw [heapNew]; rfl)
      have HS1 := Lib.hid (show wo.heap.size < W1.heap.size by rw [hW1, szAl]; omega)
      have HB1 := Lib.hid (show Below w.heap.size w W1 by rw [hW1]; exact hbel.out.alloc hbel.out.size _)
      clear hW1
      obtain ⟨a1, a2, a3, a4, a5⟩ := (show _ ∧ _ ∧ _ ∧ _ ∧ _ from (by
        have h := (HCL.out k hkl).keep (W' := wo) (fun j => hbel.out.cell (p := ⟨b, j, none⟩) HBB.out)
        rw [HXE.out] at h
        simp only [M6At] at h
        exact h.2))
      go_wp2_with fail
      rw [← HW1.out]
      clear a0 a1 a2 a3 a4 a5
      go_loopw [18] (fun si wr => ∃ j : Nat, si = .int .i64 j ∧ j ≤ k ∧ Aside (∀ jj (h : jj < d.length), jj < j → apN d[jj].nm xx) ∧ Aside (Below W1.heap.size W1 wr)) (fun si _ => k - (intOf si).toNat)
      case atStart => exact ⟨0, rfl, by omega, (show ∀ jj (h : jj < d.length), jj < 0 → apN d[jj].nm xx from fun jj _ h => by omega), (show Below _ _ _ from Below.refl _ _)⟩
      case round =>
        obtain ⟨j, rfl, hj, hin, hbl⟩ := hrel
        by_cases hjk : j < k
        · have s1 : decide ((j : Int) < (k : Int)) = true := decide_eq_true (by omega)
          have s2 : decide (j < k) = true := decide_eq_true hjk
          have s0 : (0 : Int) ≤ (j : Int) := by omega
          have s3 : (j : Int) < (k : Int) := by omega
          have s4 : ((j : Int)).toNat = j := by omega
          have hjl : j < d.length := by omega
          have hy := (HCL.out j hjl).keep (W' := wr) (fun i => (hbl.out.cell (p := ⟨b, i, none⟩) (by show b < _; have := HB1.out.size; have := HBB.out; omega)).trans (HB1.out.cell (p := ⟨b, i, none⟩) HBB.out))
          obtain ⟨y, hye⟩ : ∃ y, d[j] = y := ⟨_, rfl⟩
          have HYE := Lib.hid hye
          rw [hye] at hy
          clear hye
          obtain ⟨yy, yk, yn, ys, yA, yl, yc, yB, ym, yd⟩ := y
          simp only [M6At] at hy
          obtain ⟨b0, b1, b2, b3, b4, b5⟩ := hy
          obtain ⟨Y, hY⟩ : ∃ Y, strOf yy = Y := ⟨_, rfl⟩
          have HY := Lib.hid hY
          rw [hY] at b0
          clear hY
          obtain ⟨W2, hW2⟩ : ∃ W2, W2 = wr.alloc (.cells #[.string Y, .int .i64 yk, .int .i64 yn, .string ys, .slice yA yl yc, .slice yB ym yd] 36) := ⟨_, rfl⟩
          have HW2 := Lib.hid hW2
          have hx2 : W2.cell? ⟨wo.heap.size, 0, none⟩ = some (.string X) := by rw [hW2]; exact Lib.cell?_alloc_some _ ((hbl.out.cell (p := ⟨wo.heap.size, 0, none⟩) HS1.out).trans HX1.out)
          have hy2 : W2.cell? ⟨wr.heap.size, 0, none⟩ = some (.string Y) := by rw [hW2]; unfold World.cell?; rw [heapNew]; rfl
          have HX2 := Lib.hid hx2
          have HY2 := Lib.hid hy2
          have HB2 := Lib.hid (show Below W1.heap.size W1 W2 by rw [hW2]; exact hbl.out.alloc hbl.out.size _)
          rw [hW2] at hx2 hy2
          have HL2 := Lib.hid (show wo.heap.size < W2.heap.size ∧ wr.heap.size < W2.heap.size by
            have := hbl.out.size; have := HS1.out
            rw [hW2, szAl]; omega)
          clear hW2
          have HG1 := Lib.hid (fun (W : World) => begins_any X Y W)
          have HG2 := Lib.hid (fun (W : World) => begins_any Y X W)
          rw [← HX.out, ← HY.out, strOf_data, strOf_data, HX.out, HY.out] at HG1 HG2
          obtain ⟨q1, hq1⟩ : ∃ q, bgB xx yy = q := ⟨_, rfl⟩
          obtain ⟨q2, hq2⟩ : ∃ q, bgB yy xx = q := ⟨_, rfl⟩
          rw [hq1] at HG1
          rw [hq2] at HG2
          have HQ1 := Lib.hid hq1
          have HQ2 := Lib.hid hq2
          clear hq1 hq2
          have HNO := Lib.hid (show q1 = true ∨ q2 = true → ¬ (d.map M6.nm).Pairwise apN from fun hq hpw => by
            have h := (HPW.out.2 hpw) k j hkl hjl hlt hjk
            rw [HXE.out, HYE.out] at h
            obtain ⟨h1, h2⟩ := h
            simp only at h1 h2
            rw [HQ1.out] at h1
            rw [HQ2.out] at h2
            rcases hq with h | h
            · rw [h] at h1; cases h1
            · rw [h] at h2; cases h2)
          go_wp2_with fail
          rw [← HW2.out]
          refine (HG1.out _).mono ?_
          rintro e w3 ⟨rfl, hb3⟩
          have hx3 := (hb3.cell (p := ⟨wo.heap.size, 0, none⟩) HL2.out.1).trans HX2.out
          have hy3 := (hb3.cell (p := ⟨wr.heap.size, 0, none⟩) HL2.out.2).trans HY2.out
          have HB3 := Lib.hid (HB2.out.trans (hb3.mono HB2.out.size))
          clear hb3 hx2 hy2
          cases q1 with
          | true =>
            go_wp2
            go_ret
            exact ⟨⟨false, rfl, by simp only [Bool.false_eq_true, false_iff]; exact HNO.out (.inl (by trivial))⟩, HB1.out.trans (HB3.out.mono HB1.out.size)⟩
          | false =>
            go_wp2_with fail
            refine (HG2.out _).mono ?_
            rintro e w4 ⟨rfl, hb4⟩
            have HB4 := Lib.hid (HB3.out.trans (hb4.mono HB3.out.size))
            clear hb4 hx3 hy3
            cases q2 with
            | true =>
              go_wp2
              go_ret
              exact ⟨⟨false, rfl, by simp only [Bool.false_eq_true, false_iff]; exact HNO.out (.inr (by trivial))⟩, HB1.out.trans (HB4.out.mono HB1.out.size)⟩
            | false =>
              go_wp2
              go_roundw
              case rel =>
                refine ⟨j + 1, by go_num, by omega, (show ∀ jj (h : jj < d.length), jj < j + 1 → apN d[jj].nm xx from fun jj hjj hlt2 => ?_), (show Below _ _ _ from HB4.out)⟩
                by_cases e : jj = j
                · subst e
                  rw [HYE.out]
                  exact ⟨HQ1.out, HQ2.out⟩
                · exact hin.out jj hjj (by omega)
              case measure => simp [intOf]; omega
        · have s1 : decide ((j : Int) < (k : Int)) = false := decide_eq_false (by omega)
          have s2 : decide (j < k) = false := decide_eq_false hjk
          obtain rfl : j = k := by omega
          go_wp2
          go_roundw
          case rel =>
            refine ⟨j + 1, by go_num, by omega, (show apI d (j + 1) from fun i i2 hi hi2 h1 h2 => ?_), (show Below _ _ _ from HB1.out.trans (hbl.out.mono HB1.out.size))⟩
            by_cases e : i = j
            · subst e
              rw [HXE.out]
              exact hin.out i2 hi2 h2
            · exact hap.out i i2 hi hi2 (by omega) h2
          case measure => simp [intOf]; omega
    · have t1 : decide ((k : Int) < (len : Int)) = false := decide_eq_false (by omega)
      have t2 : decide (k < len) = false := decide_eq_false hlt
      go_wp2
      go_ret
      have e : k = len := by omega
      have h2 := hap.out
      rw [e] at h2
      exact ⟨⟨true, rfl, iff_of_true rfl (HPW.out.1 h2)⟩, hbel.out⟩
end Go.Proofs.Ytbfogkcnfnjcaaa.Pa
namespace Go.Proofs.Ytbfogkcnfnjcaaa.Pa
open Go.Proofs Go.RowKit
open Go.Proofs.Ytbfogkcnfnjcaaa.Utf
open Go.Proofs.Ytbfogkcnfnjcaaa.Sc
open Go.Proofs.Ytbfogkcnfnjcaaa.Re
open Go.Proofs.Ytbfogkcnfnjcaaa.Tr
open Go.Proofs.Ytbfogkcnfnjcaaa.Po
open Go.Proofs.Ytbfogkcnfnjcaaa.Em (lenV lenL szU szUL wfV wfL allV allL)

mutual
def tyV : V → Prop
  | .mk k n s l _ ms => (k = 6 → n = 0 ∧ s = [] ∧ l = []) ∧ tyL l ∧ tyL ms
def tyL : List V → Prop
  | [] => True
  | v :: r => tyV v ∧ tyL r
end
theorem tyL_mem {v : V} : ∀ {l : List V}, tyL l → v ∈ l → tyV v
  | [], _, h => by cases h
  | a :: r, h, hv => by
    rw [tyL] at h
    rcases List.mem_cons.1 hv with rfl | hv
    · exact h.1
    · exact tyL_mem h.2 hv
theorem tyL_of : ∀ {l : List V}, (∀ v ∈ l, tyV v) → tyL l
  | [], _ => by rw [tyL]; trivial
  | a :: r, h => by rw [tyL]; exact ⟨h a (by simp), tyL_of fun v hv => h v (by simp [hv])⟩
mutual
theorem ty_of_all : ∀ v : V, allV v → tyV v
  | .mk k n s l ns ms, h => by
    rw [allV] at h
    obtain ⟨ho, hl, hm⟩ := h
    rw [tyV]
    refine ⟨fun hk => ?_, tyL_of_all l hl, tyL_of_all ms hm⟩
    obtain ⟨⟨-, h1, h2, h3, -⟩, -⟩ := ho
    exact ⟨h1 (by omega), h2 (by omega), List.eq_nil_of_length_eq_zero (h3 (by omega))⟩
theorem tyL_of_all : ∀ l : List V, allL l → tyL l
  | [], _ => by rw [tyL]; trivial
  | v :: r, h => by rw [allL] at h; rw [tyL]; exact ⟨ty_of_all v h.1, tyL_of_all r h.2⟩
end
theorem ty_ms {v : V} (h : tyV v) : ∀ y ∈ v.ms, tyV y := by
  intro y hy
  refine tyL_mem (l := v.ms) ?_ hy
  cases v; rw [tyV] at h; exact h.2.2
theorem ty_mp {ns : List (List UInt8)} {ms : List V} (h : ∀ y ∈ ms, tyV y) : tyV (mpV (ns, ms)) := by
  unfold mpV
  rw [tyV]
  exact ⟨fun _ => ⟨rfl, rfl, rfl⟩, by rw [tyL]; trivial, tyL_of h⟩
theorem ty_get {v : V} (hl : lenV v) (h : tyV v) {p : List UInt8} (hp : p ∈ inN v) : tyV (getV v p) := ty_ms h _ (get_mem hl hp)
theorem ty_chg : ∀ {ps : List (List UInt8)} {x v : V}, okP ps v → lenV v → tyV v → tyV x → tyV (chgV ps x v)
  | [], _, _, h, _, _, _ => h.elim
  | [p], x, v, h, hv, wv, wx => by
    rw [chgV]
    split
    · exact ty_mp fun y hy => ty_ms wv y (wo_mem hy)
    · exact ty_mp fun y hy => by
        rcases with_mem hy with rfl | hy
        · exact wx
        · exact ty_ms wv y hy
  | p :: q :: r, x, v, h, hv, wv, wx => by
    rw [chgV]
    refine ty_mp fun y hy => ?_
    rcases with_mem hy with rfl | hy
    · exact ty_chg h.2.2 (lenV_get hv h.2.1) (ty_get hv wv h.2.1) wx
    · exact ty_ms wv y hy
theorem ty_stp {m : List (List UInt8) × V} {v : V} (h : okP m.1 v) (hv : lenV v) (wv : tyV v) (wx : tyV m.2) : tyV (stpV v m) := by
  unfold stpV; split
  · exact ty_chg h hv wv wx
  · exact wv
theorem ty_apl : ∀ (L : List (List (List UInt8) × V)) (v : V), Fit v L → lenV v → tyV v → (∀ m ∈ L, tyV m.2) → tyV (aplV v L)
  | [], _, _, _, h, _ => h
  | m :: L, v, h, hv, wv, wL => by
    obtain ⟨h1, h2⟩ := h.next hv
    exact ty_apl L (stpV v m) h1 h2 (ty_stp h.head.1 hv wv (wL m (by simp))) (fun n hn => wL n (by simp [hn]))
inductive D : Type
  | mk (k n : Int) (s : List UInt8) (l : List D) (f : List UInt8 → Option D) : D
def D.k : D → Int | .mk k _ _ _ _ => k
def D.n : D → Int | .mk _ n _ _ _ => n
def D.s : D → List UInt8 | .mk _ _ s _ _ => s
def D.l : D → List D | .mk _ _ _ l _ => l
def D.f : D → List UInt8 → Option D | .mk _ _ _ _ f => f
mutual
def den : V → D
  | .mk k n s l ns ms => .mk k n s (denL l) (denM ms ns)
def denL : List V → List D
  | [] => []
  | v :: r => den v :: denL r
def denM : List V → List (List UInt8) → List UInt8 → Option D
  | [], _, _ => none
  | v :: r, ns, o => match ns with
    | [] => none
    | n :: t => if n = o then some (den v) else denM r t o
end
theorem denL_map : ∀ l : List V, denL l = l.map den
  | [] => by rw [denL]; rfl
  | v :: r => by rw [denL, denL_map r]; rfl
theorem denM_get : ∀ (ms : List V) (ns : List (List UInt8)) (o : List UInt8), ns.length = ms.length → denM ms ns o = if o ∈ ns then some (den (ms[ns.idxOf o]?.getD V0)) else none
  | [], ns, o, h => by
    obtain rfl : ns = [] := List.eq_nil_of_length_eq_zero h
    rw [denM]; simp
  | v :: r, [], o, h => by simp at h
  | v :: r, n :: t, o, h => by
    rw [denM]
    by_cases e : n = o
    · subst e
      rw [if_pos rfl, if_pos (by simp)]
      simp
    · have hb : (n == o) = false := by simpa using e
      rw [if_neg e, denM_get r t o (by simpa using h), List.idxOf_cons, hb, cond_false]
      by_cases hm : o ∈ t
      · rw [if_pos hm, if_pos (by simp [hm])]; rfl
      · rw [if_neg hm, if_neg (by
          intro hh
          rcases List.mem_cons.1 hh with hh | hh
          · exact e hh.symm
          · exact hm hh)]
theorem den_f {v : V} (hl : lenV v) (hk : v.k = 6) (o : List UInt8) : (den v).f o = (getO v o).map den := by
  obtain ⟨k, n, s, l, ns, ms⟩ := v
  obtain rfl : k = 6 := hk
  rw [lenV] at hl
  rw [den]
  show denM ms ns o = _
  rw [denM_get ms ns o hl.1]
  unfold getO
  rw [get_eq]
  show _ = Option.map den (if o ∈ ns then some ((ms[ns.idxOf o]?).getD V0) else none)
  split <;> rfl
def updD (d : D) (p : List UInt8) (y : Option D) : D := .mk d.k d.n d.s d.l fun o => if o = p then y else d.f o
def chgD : List (List UInt8) → Option D → D → D
  | [], _, d => d
  | [p], x, d => updD d p x
  | p :: q :: r, x, d => updD d p ((d.f p).map (chgD (q :: r) x))
theorem D_ext {a b : D} (h1 : a.k = b.k) (h2 : a.n = b.n) (h3 : a.s = b.s) (h4 : a.l = b.l) (h5 : ∀ o, a.f o = b.f o) : a = b := by
  obtain ⟨k, n, s, l, f⟩ := a
  obtain ⟨k', n', s', l', f'⟩ := b
  obtain rfl : k = k' := h1
  obtain rfl : n = n' := h2
  obtain rfl : s = s' := h3
  obtain rfl : l = l' := h4
  obtain rfl : f = f' := funext h5
  rfl
theorem upd_f (d : D) (p : List UInt8) (y : Option D) (o : List UInt8) : (updD d p y).f o = if o = p then y else d.f o := rfl
theorem upd_comm {p q : List UInt8} (h : p ≠ q) (d : D) (x y : Option D) : updD (updD d q y) p x = updD (updD d p x) q y := by
  refine D_ext rfl rfl rfl rfl fun o => ?_
  rw [upd_f, upd_f, upd_f, upd_f]
  by_cases e1 : o = p
  · subst e1
    rw [if_pos rfl, if_neg h, if_pos rfl]
  · rw [if_neg e1, if_neg e1]
theorem upd_twice (d : D) (p : List UInt8) (x y : Option D) : updD (updD d p y) p x = updD d p x := by
  refine D_ext rfl rfl rfl rfl fun o => ?_
  rw [upd_f, upd_f, upd_f]
  by_cases e : o = p
  · rw [if_pos e, if_pos e]
  · rw [if_neg e, if_neg e, if_neg e]
def newD (r : List (List UInt8)) (x : Option D) (d : Option D) : Option D := if r = [] then x else d.map (chgD r x)
theorem chgD_cons (p : List UInt8) (r : List (List UInt8)) (x : Option D) (d : D) : chgD (p :: r) x d = updD d p (newD r x (d.f p)) := by
  cases r with
  | nil => rfl
  | cons q t => rfl
theorem chgD_comm : ∀ (a b : List (List UInt8)) (x y : Option D) (d : D), apP a b → chgD a x (chgD b y d) = chgD b y (chgD a x d)
  | [], _, _, _, _, h => absurd List.nil_prefix h.1
  | _ :: _, [], _, _, _, h => absurd List.nil_prefix h.2
  | p :: a, q :: b, x, y, d, h => by
    rw [chgD_cons p a, chgD_cons q b, chgD_cons q b, chgD_cons p a, upd_f, upd_f]
    by_cases e : p = q
    · subst e
      rw [if_pos rfl, if_pos rfl, upd_twice, upd_twice]
      have ha : a ≠ [] := by rintro rfl; exact h.1 ((List.prefix_cons_inj p).2 List.nil_prefix)
      have hb : b ≠ [] := by rintro rfl; exact h.2 ((List.prefix_cons_inj p).2 List.nil_prefix)
      unfold newD
      rw [if_neg ha, if_neg hb, if_neg hb, if_neg ha]
      cases d.f p with
      | none => rfl
      | some z =>
        simp only [Option.map_some]
        rw [chgD_comm a b x y z (ap_cons h)]
    · rw [if_neg e, if_neg (fun h => e h.symm)]
      exact upd_comm e d _ _
def oD (x : V) : Option D := if x.k = 1 then none else some (den x)
theorem den_mp {v : V} (hl : lenV v) (ht : tyV v) (hk : v.k = 6) {x : List (List UInt8) × List V} (hx : lenV (mpV x)) {p : List UInt8} {y : Option D} (h : ∀ o, (getO (mpV x) o).map den = if o = p then y else (getO v o).map den) : den (mpV x) = updD (den v) p y := by
  refine D_ext ?_ ?_ ?_ ?_ fun o => ?_
  · obtain ⟨k, n, s, l, ns, ms⟩ := v
    obtain rfl : k = 6 := hk
    rfl
  · obtain ⟨k, n, s, l, ns, ms⟩ := v
    obtain rfl : k = 6 := hk
    rw [tyV] at ht
    obtain ⟨rfl, rfl, rfl⟩ := ht.1 rfl
    rfl
  · obtain ⟨k, n, s, l, ns, ms⟩ := v
    obtain rfl : k = 6 := hk
    rw [tyV] at ht
    obtain ⟨rfl, rfl, rfl⟩ := ht.1 rfl
    rfl
  · obtain ⟨k, n, s, l, ns, ms⟩ := v
    obtain rfl : k = 6 := hk
    rw [tyV] at ht
    obtain ⟨rfl, rfl, rfl⟩ := ht.1 rfl
    unfold mpV updD
    rw [den, den]
    rfl
  · rw [upd_f, den_f hx rfl, den_f hl hk]
    exact h o
theorem den_chg : ∀ {ps : List (List UInt8)} {x v : V}, okP ps v → lenV v → tyV v → lenV x → tyV x → den (chgV ps x v) = chgD ps (oD x) (den v)
  | [], _, _, h, _, _, _, _ => h.elim
  | [p], x, v, h, hv, ht, hx, hx2 => by
    rw [chgV, chgD]
    unfold oD
    split
    · refine den_mp hv ht h (lenV_wo hv p) fun o => ?_
      rw [getO_wo hv]
      split <;> rfl
    · refine den_mp hv ht h (lenV_with hv hx p) fun o => ?_
      rw [getO_with hv]
      split <;> rfl
  | p :: q :: r, x, v, h, hv, ht, hx, hx2 => by
    have h1 := lenV_get hv h.2.1
    have h2 := ty_get hv ht h.2.1
    rw [chgV, chgD]
    refine den_mp hv ht h.1 (lenV_with hv (lenV_chg h.2.2 h1 hx) p) fun o => ?_
    rw [getO_with hv, den_f hv h.1, getO_in h.2.1]
    split
    · simp only [Option.map_some]
      rw [den_chg h.2.2 h1 h2 hx hx2]
    · rfl
theorem upd_id {d : D} {p : List UInt8} {y : Option D} (h : d.f p = y) : updD d p y = d := by
  refine D_ext rfl rfl rfl rfl fun o => ?_
  rw [upd_f]
  split
  · rename_i e; rw [e, h]
  · rfl
theorem chgD_none : ∀ {ps : List (List UInt8)} {v : V}, okP ps v → lenV v → folV ps v = none → chgD ps none (den v) = den v
  | [], _, h, _, _ => h.elim
  | [p], v, h, hv, hf => by
    rw [chgD]
    refine upd_id ?_
    rw [den_f hv h]
    rw [folV] at hf
    cases hg : getO v p with
    | none => rfl
    | some y => rw [hg] at hf; cases hf
  | p :: q :: r, v, h, hv, hf => by
    rw [chgD]
    refine upd_id ?_
    rw [folV, getO_in h.2.1] at hf
    rw [den_f hv h.1, getO_in h.2.1]
    simp only [Option.map_some]
    rw [chgD_none h.2.2 (lenV_get hv h.2.1) hf]
theorem den_stp {m : List (List UInt8) × V} {v : V} (h : okP m.1 v) (hv : lenV v) (ht : tyV v) (hx : lenV m.2) (hx2 : tyV m.2) : den (stpV v m) = chgD m.1 (oD m.2) (den v) := by
  unfold stpV
  split
  · exact den_chg h hv ht hx hx2
  · rename_i hc
    have h1 : m.2.k = 1 := Classical.not_not.1 fun hh => hc (.inr hh)
    have h2 : folV m.1 v = none := by
      cases he : folV m.1 v with
      | none => rfl
      | some y => exact absurd (.inl (by rw [he]; rfl)) hc
    unfold oD
    rw [if_pos h1]
    exact (chgD_none h hv h2).symm
theorem den_apl : ∀ (L : List (List (List UInt8) × V)) (v : V), Fit v L → lenV v → tyV v → (∀ m ∈ L, tyV m.2) → den (aplV v L) = L.foldl (fun d m => chgD m.1 (oD m.2) d) (den v)
  | [], _, _, _, _, _ => rfl
  | m :: L, v, h, hv, ht, hL => by
    obtain ⟨h1, h2⟩ := h.next hv
    have hm := h.head
    unfold aplV
    rw [List.foldl_cons, List.foldl_cons, ← den_stp hm.1 hv ht hm.2 (hL m (by simp))]
    exact den_apl L (stpV v m) h1 h2 (ty_stp hm.1 hv ht (hL m (by simp))) fun n hn => hL n (by simp [hn])
theorem foldl_perm {α β : Type} (f : β → α → β) (R : α → α → Prop) (hs : ∀ a b, R a b → R b a) (hc : ∀ a b z, R a b → f (f z a) b = f (f z b) a) {l r : List α} (h : l.Perm r) : l.Pairwise R → ∀ z, l.foldl f z = r.foldl f z := by
  induction h with
  | nil => intro _ z; rfl
  | cons x _ ih => intro hp z; rw [List.foldl_cons, List.foldl_cons]; exact ih (List.pairwise_cons.1 hp).2 _
  | swap x y l =>
    intro hp z
    simp only [List.foldl_cons]
    rw [hc y x z ((List.pairwise_cons.1 hp).1 x (by simp))]
  | trans h1 _ ih1 ih2 =>
    intro hp z
    exact (ih1 hp z).trans (ih2 (h1.pairwise hp (fun {a b} h => hs a b h)) z)
theorem Fit.perm {v : V} {L R : List (List (List UInt8) × V)} (h : Fit v L) (hp : L.Perm R) : Fit v R :=
  ⟨fun m hm => h.1 m (hp.mem_iff.2 hm), hp.pairwise h.2 fun h => h.symm⟩
theorem apl_perm {v : V} {L R : List (List (List UInt8) × V)} (h : Fit v L) (hp : L.Perm R) (hv : lenV v) (ht : tyV v) (hL : ∀ m ∈ L, tyV m.2) : den (aplV v L) = den (aplV v R) := by
  rw [den_apl L v h hv ht hL, den_apl R v (h.perm hp) hv ht fun m hm => hL m (hp.mem_iff.2 hm)]
  exact foldl_perm _ (fun a b => apP a.1 b.1) (fun _ _ h => h.symm) (fun a b z h => (chgD_comm a.1 b.1 (oD a.2) (oD b.2) z h).symm) hp h.2 _
end Go.Proofs.Ytbfogkcnfnjcaaa.Pa
namespace Go.Proofs.Ytbfogkcnfnjcaaa.Pa
open Go.Proofs Go.RowKit Go.Lib
open Go.Proofs.Ytbfogkcnfnjcaaa.Utf
open Go.Proofs.Ytbfogkcnfnjcaaa.Sc
open Go.Proofs.Ytbfogkcnfnjcaaa.Re
open Go.Proofs.Ytbfogkcnfnjcaaa.Tr
open Go.Proofs.Ytbfogkcnfnjcaaa.Em (lenV lenL)

abbrev M3 := M6 × V × List Nat
def tD (T : List M3) : List M6 := T.map fun t => t.1
def tN (T : List M3) : List (List UInt8) := T.map fun t => t.1.nm
def tV (T : List M3) : List V := T.map fun t => t.2.1
def tF (T : List M3) : List Nat := (T.map fun t => t.2.2).flatten
theorem tD_nm (T : List M3) : (tD T).map M6.nm = tN T := by unfold tD tN; rw [List.map_map]; rfl
theorem tD_len (T : List M3) : (tD T).length = T.length := List.length_map _
theorem tN_len (T : List M3) : (tN T).length = T.length := List.length_map _
theorem tV_len (T : List M3) : (tV T).length = T.length := List.length_map _
theorem tD_get (T : List M3) (i : Nat) (h : i < (tD T).length) : (tD T)[i] = (T[i]'(by rwa [tD_len] at h)).1 := List.getElem_map _
theorem tN_get (T : List M3) (i : Nat) (h : i < (tN T).length) : (tN T)[i] = (T[i]'(by rwa [tN_len] at h)).1.nm := List.getElem_map _
theorem tV_get (T : List M3) (i : Nat) (h : i < (tV T).length) : (tV T)[i] = (T[i]'(by rwa [tV_len] at h)).2.1 := List.getElem_map _
theorem tF_mem {T : List M3} {t : M3} {k : Nat} (ht : t ∈ T) (hk : k ∈ t.2.2) : k ∈ tF T := by
  unfold tF
  rw [List.mem_flatten]
  exact ⟨t.2.2, List.mem_map.2 ⟨t, ht, rfl⟩, hk⟩
theorem tF_of {T : List M3} {k : Nat} (h : k ∈ tF T) : ∃ t ∈ T, k ∈ t.2.2 := by
  unfold tF at h
  rw [List.mem_flatten] at h
  obtain ⟨l, hl, hk⟩ := h
  obtain ⟨t, ht, rfl⟩ := List.mem_map.1 hl
  exact ⟨t, ht, hk⟩
theorem tF_cons (t : M3) (T : List M3) : tF (t :: T) = t.2.2 ++ tF T := by unfold tF; rfl
theorem tF_app (T R : List M3) : tF (T ++ R) = tF T ++ tF R := by unfold tF; rw [List.map_append, List.flatten_append]

theorem mf_build {w : World} {g : Nat} : ∀ (ms : List V) (ns : List (List UInt8)) (F : List Nat) (i : Nat), RdFM w g i ns ms F → ns.length = ms.length → ∃ T : List M3, tN T = ns ∧ tV T = ms ∧ tF T = F ∧ (∀ j (h : j < T.length), CellsAt w g ((i + j) * 6) (encM T[j].1)) ∧ ∀ t ∈ T, RdF w t.2.1 (m6tail t.1) t.2.2
  | [], ns, F, i, h, hn => by
    rw [RdFM] at h
    subst h
    exact ⟨[], by rw [List.eq_nil_of_length_eq_zero hn]; rfl, rfl, rfl, (fun j h => by simp at h), fun t h => by cases h⟩
  | v :: r, ns, F, i, h, hn => by
    rw [RdFM] at h
    obtain ⟨nm, ns', cs, F1, F2, rfl, rfl, h1, h2, h3⟩ := h
    obtain ⟨T, t1, t2, t3, t4, t5⟩ := mf_build r ns' F2 (i + 1) h3 (by simpa using hn)
    obtain ⟨A, c, A2, c2, FL, FM, rfl, -⟩ := h2.cells
    refine ⟨(⟨nm, v.k, v.n, strOf v.s, A, v.l.length, c, A2, v.ms.length, c2⟩, v, F1) :: T, by rw [← t1]; rfl, by rw [← t2]; rfl, by rw [tF_cons, t3], fun j hj => ?_, fun t ht => ?_⟩
    · cases j with
      | zero => exact h1
      | succ j =>
        have := t4 j (by simpa using hj)
        rw [show i + (j + 1) = i + 1 + j by omega]
        exact this
    · rcases List.mem_cons.1 ht with rfl | ht
      · exact h2
      · exact t5 t ht
structure MapT (w : World) (A : Option Addr) (T : List M3) (FM : List Nat) : Prop where
  at_ : 0 < T.length → ∃ g, A = some ⟨g, 0, none⟩ ∧ FM = g :: tF T ∧ ∀ j (h : j < T.length), CellsAt w g (j * 6) (encM T[j].1)
  none_ : T.length = 0 → FM = []
  rd : ∀ t ∈ T, RdF w t.2.1 (m6tail t.1) t.2.2
theorem mapT_of {w : World} {v : V} {cs : List Value} {F : List Nat} (h : RdF w v cs F) : ∃ A c A2 c2 FL FM T, cs = [.int .i64 v.k, .int .i64 v.n, .string (strOf v.s), .slice A v.l.length c, .slice A2 v.ms.length c2] ∧ F = FL ++ FM ∧ tN T = v.ns ∧ tV T = v.ms ∧ MapT w A2 T FM := by
  obtain ⟨A, c, A2, c2, FL, FM, rfl, hn, rfl, -, hm⟩ := h.cells
  rcases hm with ⟨h0, rfl⟩ | ⟨g, T', h0, rfl, rfl, hr⟩
  · refine ⟨A, c, A2, c2, FL, [], [], rfl, rfl, ?_, ?_, ⟨fun h => by simp at h, fun _ => rfl, fun t h => by cases h⟩⟩
    · rw [List.eq_nil_of_length_eq_zero (hn.trans h0)]; rfl
    · rw [List.eq_nil_of_length_eq_zero h0]; rfl
  · obtain ⟨T, t1, t2, t3, t4, t5⟩ := mf_build v.ms v.ns T' 0 hr hn
    refine ⟨A, c, _, c2, FL, g :: T', T, rfl, rfl, t1, t2, ⟨fun _ => ⟨g, rfl, by rw [t3], fun j h => by have := t4 j h; rwa [Nat.zero_add] at this⟩, fun h => ?_, t5⟩⟩
    rw [← t2, tV_len] at h0
    omega
theorem MapT.raw {w : World} {A : Option Addr} {T : List M3} {FM : List Nat} (h : MapT w A T FM) {hi : Nat} (hF : ∀ k ∈ FM, k < hi) : RawM w hi A (tD T) := fun h0 => by
  rw [tD_len] at h0
  obtain ⟨g, e, e2, hc⟩ := h.at_ h0
  refine ⟨g, 0, e, hF g (by rw [e2]; simp), fun i hi => ?_⟩
  have := hc i (by rw [tD_len] at hi; exact hi)
  rw [tD_get, Nat.zero_add]
  exact m6_of_cells this
theorem MapT.sub {w : World} {A : Option Addr} {T : List M3} {FM : List Nat} (h : MapT w A T FM) {k : Nat} (hk : k ∈ tF T) : k ∈ FM := by
  obtain ⟨t, ht, _⟩ := tF_of hk
  obtain ⟨g, _, e, _⟩ := h.at_ (List.length_pos_of_mem ht)
  rw [e]
  exact List.mem_cons_of_mem _ hk
theorem MapT.nod {w : World} {A : Option Addr} {T : List M3} {FM : List Nat} (h : MapT w A T FM) (hn : FM.Nodup) : (tF T).Nodup := by
  by_cases h0 : 0 < T.length
  · obtain ⟨g, _, e, _⟩ := h.at_ h0
    rw [e] at hn
    exact (List.nodup_cons.1 hn).2
  · rw [List.eq_nil_of_length_eq_zero (l := T) (by omega)]
    exact List.nodup_nil
theorem rdF_of {w w' : World} {T : List M3} {e : Ending} (h : GivesD (tD T) w e w') (hT : ∀ t ∈ T, RdF w t.2.1 (m6tail t.1) t.2.2) (hn : (tF T).Nodup) (hlt : ∀ k ∈ tF T, k < w.heap.size) :
    ∃ (cs : List Value) (F : List Nat), e = .returned (.agg cs.toArray) ∧ RdF w' (mpV (tN T, tV T)) cs F ∧ F.Nodup ∧ (∀ k ∈ F, k ∈ tF T ∨ w.heap.size ≤ k) ∧ ∀ k ∈ F, k < w'.heap.size := by
  obtain ⟨⟨A, c, rfl, hcap, hg⟩, hb⟩ := h
  rw [tD_len] at hcap
  by_cases h0 : 0 < T.length
  · obtain ⟨g, rfl, g1, g2, hc⟩ := hg (by rw [tD_len]; exact h0)
    rw [tD_len]
    refine ⟨_, g :: tF T, rfl, RdF.of_cells ⟨none, 0, some ⟨g, 0, none⟩, c, [], g :: tF T, Nat.le_refl 0, ?_, ?_, ?_, rfl, .inl ⟨rfl, rfl⟩, .inr ⟨g, tF T, ?_, rfl, rfl, ?_⟩⟩, ?_, fun k hk => ?_, fun k hk => ?_⟩
    · show (tV T).length ≤ c; rw [tV_len]; exact hcap
    · show _ = [Value.int .i64 6, .int .i64 0, .string (strOf []), .slice none 0 0, .slice (some ⟨g, 0, none⟩) (tV T).length c]
      rw [tV_len]; rfl
    · show (tN T).length = (tV T).length; rw [tN_len, tV_len]
    · show 0 < (tV T).length; rw [tV_len]; exact h0
    · refine RdFM.of_items (tV T) (tN T) (T.map fun t => t.2.2) 0 (by rw [List.length_map, tV_len]) (by rw [tN_len, tV_len]) fun j h1 h2 h3 => ?_
      have hj : j < T.length := by rwa [tV_len] at h1
      refine ⟨m6tail T[j].1, ?_, ?_⟩
      · have := hc j (by rw [tD_len]; exact hj)
        rw [Nat.zero_add]
        rw [tD_get] at this
        rw [tN_get]
        exact this
      · rw [tV_get, List.getElem_map]
        exact RdF.keep _ _ _ (fun k hk => hb.block k (hlt k (tF_mem (List.getElem_mem hj) hk))) (hT _ (List.getElem_mem hj))
    · rw [List.nodup_cons]
      exact ⟨fun hk => by have := hlt g hk; omega, hn⟩
    · rcases List.mem_cons.1 hk with rfl | hk
      · exact .inr g1
      · exact .inl hk
    · rcases List.mem_cons.1 hk with rfl | hk
      · exact g2
      · exact Nat.lt_of_lt_of_le (hlt k hk) hb.size
  · have e : T = [] := List.eq_nil_of_length_eq_zero (by omega)
    subst e
    refine ⟨_, [], rfl, RdF.of_cells ⟨none, 0, A, c, [], [], Nat.le_refl 0, Nat.zero_le _, rfl, rfl, rfl, .inl ⟨rfl, rfl⟩, .inl ⟨rfl, rfl⟩⟩, List.nodup_nil, (fun k h => by cases h), fun k h => by cases h⟩

def withT (T : List M3) (x : M3) : List M3 := if x.1.nm ∈ tN T then T.set ((tN T).idxOf x.1.nm) x else T ++ [x]
def woT (T : List M3) (p : List UInt8) : List M3 := T.filter fun t => t.1.nm ≠ p
theorem withT_D (T : List M3) (x : M3) : tD (withT T x) = withD (tD T) x.1 := by
  unfold withT withD
  rw [tD_nm]
  split
  · unfold tD; rw [List.map_set]
  · unfold tD; rw [List.map_append]; rfl
theorem set_idx {ns : List (List UInt8)} {p : List UInt8} (h : p ∈ ns) : ns.set (ns.idxOf p) p = ns := by
  have h1 := List.idxOf_lt_length_of_mem h
  have h2 : ns[ns.idxOf p] = p := List.getElem_idxOf h1
  have h3 : ns.set (ns.idxOf p) ns[ns.idxOf p] = ns := List.set_getElem_self h1
  rw [h2] at h3
  exact h3
theorem withT_N {v : V} (hk : v.k = 6) {T : List M3} {x : M3} (h : tN T = v.ns) : tN (withT T x) = withN v x.1.nm := by
  have hi : inN v = tN T := by unfold inN; rw [if_pos hk, h]
  unfold withT withN
  rw [hi]
  split
  · rename_i hm
    unfold tN at hm ⊢
    rw [List.map_set]
    exact set_idx hm
  · unfold tN; rw [List.map_append]; rfl
theorem withT_V {v : V} (hk : v.k = 6) {T : List M3} {x : M3} (h : tN T = v.ns) (h2 : tV T = v.ms) : tV (withT T x) = withM v x.1.nm x.2.1 := by
  have hi : inN v = tN T := by unfold inN; rw [if_pos hk, h]
  have hm : inM v = tV T := by unfold inM; rw [if_pos hk, h2]
  unfold withT withM
  rw [hi, hm]
  split
  · unfold tV; rw [List.map_set]
  · unfold tV; rw [List.map_append]; rfl
theorem woT_D (T : List M3) (p : List UInt8) : tD (woT T p) = woD (tD T) p := by
  unfold woT woD tD
  rw [List.filter_map]
  rfl
theorem woT_NV {v : V} (hk : v.k = 6) {T : List M3} (p : List UInt8) (h : tN T = v.ns) (h2 : tV T = v.ms) : tN (woT T p) = woN v p ∧ tV (woT T p) = woM v p := by
  have hi : inN v = tN T := by unfold inN; rw [if_pos hk, h]
  have hm : inM v = tV T := by unfold inM; rw [if_pos hk, h2]
  unfold woT woN woM
  rw [hi, hm]
  unfold tN tV
  rw [List.zip_map', List.filter_map, List.map_map, List.map_map]
  exact ⟨rfl, rfl⟩
theorem withT_mem {T : List M3} {x t : M3} (h : t ∈ withT T x) : t = x ∨ t ∈ T := by
  unfold withT at h
  split at h
  · exact set_mem' h
  · rcases List.mem_append.1 h with h | h
    · exact .inr h
    · exact .inl (List.mem_singleton.1 h)
theorem nodup_set {N : Nat} : ∀ (T : List M3) (i : Nat) (x : M3) (hi : i < T.length), (tF T).Nodup → x.2.2.Nodup → (∀ k ∈ x.2.2, k ∈ T[i].2.2 ∨ N ≤ k) → (∀ k ∈ tF T, k < N) → (tF (T.set i x)).Nodup ∧ ∀ k ∈ tF (T.set i x), k ∈ tF T ∨ N ≤ k
  | [], _, _, h, _, _, _, _ => by simp at h
  | t :: T, 0, x, _, hn, hx, hs, hlt => by
    rw [tF_cons, List.nodup_append] at hn
    rw [List.set_cons_zero, tF_cons, List.nodup_append, tF_cons]
    refine ⟨⟨hx, hn.2.1, fun a ha b hb e => ?_⟩, fun k hk => ?_⟩
    · subst e
      rcases hs a ha with h | h
      · exact hn.2.2 a h a hb rfl
      · have := hlt a (by rw [tF_cons]; exact List.mem_append_right _ hb)
        omega
    · rcases List.mem_append.1 hk with hk | hk
      · rcases hs k hk with h | h
        · exact .inl (List.mem_append_left _ h)
        · exact .inr h
      · exact .inl (List.mem_append_right _ hk)
  | t :: T, i + 1, x, h, hn, hx, hs, hlt => by
    rw [tF_cons, List.nodup_append] at hn
    obtain ⟨h1, h2⟩ := nodup_set T i x (by simpa using h) hn.2.1 hx (fun k hk => by have := hs k hk; simpa using this) (fun k hk => hlt k (by rw [tF_cons]; exact List.mem_append_right _ hk))
    rw [List.set_cons_succ, tF_cons, List.nodup_append, tF_cons]
    refine ⟨⟨hn.1, h1, fun a ha b hb e => ?_⟩, fun k hk => ?_⟩
    · subst e
      rcases h2 a hb with h | h
      · exact hn.2.2 a ha a h rfl
      · have := hlt a (by rw [tF_cons]; exact List.mem_append_left _ ha)
        omega
    · rcases List.mem_append.1 hk with hk | hk
      · exact .inl (List.mem_append_left _ hk)
      · rcases h2 k hk with h | h
        · exact .inl (List.mem_append_right _ h)
        · exact .inr h
theorem withT_F {N : Nat} {T : List M3} {x : M3} (hn : (tF T).Nodup) (hx : x.2.2.Nodup) (hs : ∀ k ∈ x.2.2, (∃ h : (tN T).idxOf x.1.nm < T.length, k ∈ (T[(tN T).idxOf x.1.nm]).2.2) ∨ N ≤ k) (hlt : ∀ k ∈ tF T, k < N) : (tF (withT T x)).Nodup ∧ ∀ k ∈ tF (withT T x), k ∈ tF T ∨ N ≤ k := by
  unfold withT
  split
  · rename_i hm
    have h1 := List.idxOf_lt_length_of_mem hm
    rw [tN_len] at h1
    exact nodup_set T _ x h1 hn hx (fun k hk => by
      rcases hs k hk with ⟨_, h⟩ | h
      · exact .inl h
      · exact .inr h) hlt
  · rename_i hm
    have h1 : (tN T).idxOf x.1.nm = T.length := by rw [List.idxOf_eq_length hm, tN_len]
    have hs' : ∀ k ∈ x.2.2, N ≤ k := fun k hk => by
      rcases hs k hk with ⟨h, _⟩ | h
      · omega
      · exact h
    have e : tF [x] = x.2.2 := by rw [tF_cons]; simp [tF]
    rw [tF_app, e, List.nodup_append]
    refine ⟨⟨hn, hx, fun a ha b hb e => ?_⟩, fun k hk => ?_⟩
    · subst e
      have := hlt a ha; have := hs' a hb; omega
    · rcases List.mem_append.1 hk with hk | hk
      · exact .inl hk
      · exact .inr (hs' k hk)
theorem woT_F {T : List M3} (p : List UInt8) (hn : (tF T).Nodup) : (tF (woT T p)).Nodup ∧ ∀ k ∈ tF (woT T p), k ∈ tF T := by
  induction T with
  | nil => exact ⟨hn, fun k h => h⟩
  | cons t T ih =>
    rw [tF_cons, List.nodup_append] at hn
    obtain ⟨h1, h2⟩ := ih hn.2.1
    unfold woT at h1 h2 ⊢
    rw [List.filter_cons]
    split
    · rw [tF_cons, List.nodup_append, tF_cons]
      refine ⟨⟨hn.1, h1, fun a ha b hb e => hn.2.2 a ha b (h2 b hb) e⟩, fun k hk => ?_⟩
      rcases List.mem_append.1 hk with hk | hk
      · exact List.mem_append_left _ hk
      · exact List.mem_append_right _ (h2 k hk)
    · rw [tF_cons]
      exact ⟨h1, fun k hk => List.mem_append_right _ (h2 k hk)⟩
theorem getT {v : V} (hk : v.k = 6) {T : List M3} {p : List UInt8} (h : tN T = v.ns) (h2 : tV T = v.ms) (hp : p ∈ inN v) :
    ∃ (hi : (tN T).idxOf p < T.length), getD (tD T) p = m6tail (T[(tN T).idxOf p]).1 ∧ getV v p = (T[(tN T).idxOf p]).2.1 ∧ p ∈ (tD T).map M6.nm := by
  have hi : inN v = tN T := by unfold inN; rw [if_pos hk, h]
  have hm : inM v = tV T := by unfold inM; rw [if_pos hk, h2]
  rw [hi] at hp
  have h1 := List.idxOf_lt_length_of_mem hp
  rw [tN_len] at h1
  refine ⟨h1, ?_, ?_, by rw [tD_nm]; exact hp⟩
  · unfold getD
    rw [tD_nm]
    unfold tD
    rw [List.map_map, List.getElem?_eq_getElem (by rw [List.length_map]; exact h1), List.getElem_map]
    rfl
  · rw [get_eq, hi, hm]
    unfold tV
    rw [List.getElem?_eq_getElem (by rw [List.length_map]; exact h1), List.getElem_map]
    rfl
end Go.Proofs.Ytbfogkcnfnjcaaa.Pa
