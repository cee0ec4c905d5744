import Derived.Test.YtbepnjgbkfidiaaTtTsJ
import Derived.Test.YtbepnjgbkfidiaaTtF
/- Members put in and taken away: plain. -/
namespace Go.Proofs.Ytbepnjgbkfidiaa.Tr
open Go.Proofs Go.RowKit Go.Lib
open Go.Proofs.Ytbepnjgbkfidiaa.Utf
open Go.Proofs.Ytbepnjgbkfidiaa.Sc
open Go.Proofs.Ytbepnjgbkfidiaa.Re

theorem idx_app_mem {ns : List (List UInt8)} {nm : List UInt8} (r : List (List UInt8)) (h : nm ∈ ns) : (ns ++ r).idxOf nm = ns.idxOf nm := by
  induction ns with
  | nil => cases h
  | cons a t ih =>
    rw [List.cons_append, List.idxOf_cons, List.idxOf_cons]
    by_cases e : a = nm
    · simp [e]
    · have hb : (a == nm) = false := by simpa using e
      rcases List.mem_cons.1 h with k | k
      · exact absurd k.symm e
      · rw [hb, cond_false, cond_false, ih k]
theorem idx_app_not {ns : List (List UInt8)} {nm : List UInt8} (r : List (List UInt8)) (h : nm ∉ ns) : (ns ++ r).idxOf nm = ns.length + r.idxOf nm := by
  induction ns with
  | nil => simp
  | cons a t ih =>
    have e : a ≠ nm := fun e => h (by rw [e]; simp)
    have hb : (a == nm) = false := by simpa using e
    rw [List.cons_append, List.idxOf_cons, hb, cond_false, ih (fun k => h (by simp [k]))]
    simp; omega
theorem inN_mp (x : List (List UInt8) × List V) : inN (mpV x) = x.1 := rfl
theorem inM_mp (x : List (List UInt8) × List V) : inM (mpV x) = x.2 := rfl
theorem get_eq (v : V) (nm : List UInt8) : getV v nm = (inM v)[(inN v).idxOf nm]?.getD V0 := by
  unfold getV
  rw [List.getD_eq_getElem?_getD]
/-- what was put in is there -/
theorem with_same (v x : V) (nm : List UInt8) (hl : (inN v).length = (inM v).length) : nm ∈ inN (mpV (withN v nm, withM v nm x)) ∧ getV (mpV (withN v nm, withM v nm x)) nm = x := by
  rw [get_eq, inN_mp, inM_mp]
  unfold withN withM
  by_cases h : nm ∈ inN v
  · simp only [if_pos h]
    refine ⟨h, ?_⟩
    have hi := List.idxOf_lt_length_of_mem h
    rw [List.getElem?_set_self (by omega)]
    rfl
  · simp only [if_neg h]
    refine ⟨by simp, ?_⟩
    rw [idx_app_not [nm] h, hl]
    simp
/-- all else is as it was -/
theorem with_other (v x : V) (nm o : List UInt8) (hl : (inN v).length = (inM v).length) (ho : o ≠ nm) : (o ∈ inN (mpV (withN v nm, withM v nm x)) ↔ o ∈ inN v) ∧ getV (mpV (withN v nm, withM v nm x)) o = getV v o := by
  rw [get_eq, get_eq, inN_mp, inM_mp]
  unfold withN withM
  by_cases h : nm ∈ inN v
  · simp only [if_pos h]
    refine ⟨trivial, ?_⟩
    have hne : (inN v).idxOf nm ≠ (inN v).idxOf o := fun e => by
      have h1 := List.getElem_idxOf (List.idxOf_lt_length_of_mem h)
      by_cases hm : o ∈ inN v
      · have h2 := List.getElem_idxOf (List.idxOf_lt_length_of_mem hm)
        simp only [← e] at h2
        exact ho (h2.symm.trans h1)
      · rw [List.idxOf_eq_length hm] at e
        have := List.idxOf_lt_length_of_mem h
        omega
    rw [List.getElem?_set_ne hne]
  · simp only [if_neg h]
    refine ⟨by simp [ho], ?_⟩
    by_cases hm : o ∈ inN v
    · have hi := List.idxOf_lt_length_of_mem hm
      rw [idx_app_mem [nm] hm, List.getElem?_append_left (by omega)]
    · have hb : (nm == o) = false := by simpa using fun e => ho e.symm
      rw [idx_app_not [nm] hm, List.idxOf_eq_length hm, List.idxOf_cons, hb]
      rw [List.getElem?_eq_none (by simp; omega), List.getElem?_eq_none (by omega)]
theorem wo_gen (nm : List UInt8) : ∀ (ns : List (List UInt8)) (ms : List V), ns.length = ms.length → nm ∉ ((ns.zip ms).filter fun p => p.1 ≠ nm).map Prod.fst ∧
    ∀ o, o ≠ nm → (o ∈ ((ns.zip ms).filter fun p => p.1 ≠ nm).map Prod.fst ↔ o ∈ ns) ∧ (((ns.zip ms).filter fun p => p.1 ≠ nm).map Prod.snd)[(((ns.zip ms).filter fun p => p.1 ≠ nm).map Prod.fst).idxOf o]?.getD V0 = ms[ns.idxOf o]?.getD V0
  | [], ms, hl => by
    obtain rfl : ms = [] := List.eq_nil_of_length_eq_zero hl.symm
    simp
  | a :: ns, [], hl => by simp at hl
  | a :: ns, x :: ms, hl => by
    obtain ⟨i1, i2⟩ := wo_gen nm ns ms (by simpa using hl)
    by_cases e : a = nm
    · have hf : (((a :: ns).zip (x :: ms)).filter fun p => p.1 ≠ nm) = ((ns.zip ms).filter fun p => p.1 ≠ nm) := by simp [e]
      rw [hf]
      refine ⟨i1, fun o ho => ?_⟩
      obtain ⟨j1, j2⟩ := i2 o ho
      have hb : (a == o) = false := by rw [e]; simpa using fun e => ho e.symm
      refine ⟨by rw [j1, e]; simp [ho], ?_⟩
      rw [j2, List.idxOf_cons, hb, cond_false, List.getElem?_cons_succ]
    · have hf : (((a :: ns).zip (x :: ms)).filter fun p => p.1 ≠ nm) = (a, x) :: ((ns.zip ms).filter fun p => p.1 ≠ nm) := by simp [e]
      rw [hf]
      refine ⟨by rw [List.map_cons, List.mem_cons]; exact fun h => h.elim (fun h => e h.symm) i1, fun o ho => ?_⟩
      obtain ⟨j1, j2⟩ := i2 o ho
      refine ⟨by rw [List.map_cons, List.mem_cons, List.mem_cons, j1], ?_⟩
      rw [List.map_cons, List.map_cons, List.idxOf_cons, List.idxOf_cons]
      by_cases hb : (a == o) = true
      · simp [hb]
      · have hb' : (a == o) = false := by simpa using hb
        rw [hb', cond_false, cond_false, List.getElem?_cons_succ, List.getElem?_cons_succ, j2]
/-- what was taken away is there no more; all else is as it was -/
theorem wo_same (v : V) (nm : List UInt8) (hl : (inN v).length = (inM v).length) : nm ∉ inN (mpV (woN v nm, woM v nm)) := (wo_gen nm _ _ hl).1
theorem wo_other (v : V) (nm o : List UInt8) (hl : (inN v).length = (inM v).length) (ho : o ≠ nm) : (o ∈ inN (mpV (woN v nm, woM v nm)) ↔ o ∈ inN v) ∧ getV (mpV (woN v nm, woM v nm)) o = getV v o := by
  rw [get_eq, get_eq]
  exact (wo_gen nm _ _ hl).2 o ho
end Go.Proofs.Ytbepnjgbkfidiaa.Tr
