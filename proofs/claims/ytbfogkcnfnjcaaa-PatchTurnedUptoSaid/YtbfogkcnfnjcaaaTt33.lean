/- Merged: TsA TsB. -/
import Derived.Test.YtbfogkcnfnjcaaaTt28
import Derived.Test.YtbfogkcnfnjcaaaTt21
import Derived.Test.YtbfogkcnfnjcaaaTt24
import Derived.Test.YtbfogkcnfnjcaaaTt14
import Derived.Test.YtbfogkcnfnjcaaaTt30
import Derived.Test.YtbfogkcnfnjcaaaTt17
import Derived.BigQuiet
import Derived.Deep.RegionHeld3
import Derived.Test.YtbfogkcnfnjcaaaTt22
import Derived.Test.YtbfogkcnfnjcaaaTt7
import Derived.Test.YtbfogkcnfnjcaaaTt16
namespace Go.Proofs.Ytbfogkcnfnjcaaa.Tr
open Go.Proofs Go.RowKit Go.Lib
open Go.Proofs.Ytbfogkcnfnjcaaa.Utf
open Go.Proofs.Ytbfogkcnfnjcaaa.Sc
open Go.Proofs.Ytbfogkcnfnjcaaa.Re
open Go.Proofs.Ytbfogkcnfnjcaaa.Em (allV allL lenV lenL own_l own_m)

theorem cnt_pos (v : V) : 1 ≤ cnt v := by rw [cnt_eq]; omega
end Go.Proofs.Ytbfogkcnfnjcaaa.Tr
namespace Go.Proofs.Ytbfogkcnfnjcaaa.Tr
open Go.Proofs Go.RowKit Go.Lib
open Go.Proofs.Ytbfogkcnfnjcaaa.Utf
open Go.Proofs.Ytbfogkcnfnjcaaa.Sc
open Go.Proofs.Ytbfogkcnfnjcaaa.Re
open Go.Proofs.Ytbfogkcnfnjcaaa.Em (allV allL lenV lenL own nmsOk szU szUL wfV wfL chk chk_ok len_small okW)

theorem szUL_perm {l r : List V} (h : l.Perm r) : szUL l = szUL r := by
  induction h with
  | nil => rfl
  | cons x _ ih => rw [szUL, szUL, ih]
  | swap x y l => rw [szUL, szUL, szUL, szUL]; omega
  | trans _ _ h1 h2 => exact h1.trans h2
theorem wfL_perm {l r : List V} (h : l.Perm r) (ho : wfL l) : wfL r := by
  induction h with
  | nil => exact ho
  | cons x _ ih => rw [wfL] at ho ⊢; exact ⟨ho.1, ih ho.2⟩
  | swap x y l => rw [wfL, wfL] at ho ⊢; exact ⟨ho.2.1, ho.1, ho.2.2⟩
  | trans _ _ h1 h2 => exact h2 (h1 ho)
theorem sum_perm {l r : List Nat} (h : l.Perm r) : l.sum = r.sum := by
  induction h with
  | nil => rfl
  | cons x _ ih => simp [ih]
  | swap x y l => simp; omega
  | trans _ _ h1 h2 => exact h1.trans h2
theorem wfV_eq (v : V) : wfV v ↔ (Lit.int .i64 v.k).wf = true ∧ (Lit.int .i64 v.n).wf = true ∧ wfL v.l ∧ wfL v.ms := by cases v; rw [wfV]; rfl
mutual
/-- no map has a name twice -/
def ndV : V → Prop
  | .mk _ _ _ l ns ms => ns.Nodup ∧ ndL l ∧ ndL ms
def ndL : List V → Prop
  | [] => True
  | v :: r => ndV v ∧ ndL r
end
theorem ndV_eq (v : V) : ndV v ↔ v.ns.Nodup ∧ ndL v.l ∧ ndL v.ms := by cases v; rw [ndV]; rfl
theorem ndL_mem {v : V} : ∀ {l : List V}, ndL l → v ∈ l → ndV v
  | [], _, h => by cases h
  | a :: r, h, hv => by
    rw [ndL] at h
    rcases List.mem_cons.1 hv with rfl | hv
    · exact h.1
    · exact ndL_mem h.2 hv
mutual
theorem nd_of : ∀ v : V, allV v → lenV v → Em.small v → ndV v
  | .mk k n s l ns ms, h, hl, hs => by
    rw [allV] at h
    rw [lenV] at hl
    rw [Em.small] at hs
    rw [ndV]
    refine ⟨?_, ndL_of l h.2.1 hl.2.1 hs.2.1, ndL_of ms h.2.2 hl.2.2 hs.2.2⟩
    by_cases hk : k = 6
    · exact (h.1.2.2.2.2 hk hs.1).2
    · have := h.1.1.2.2.2.2 hk
      have e : ns = [] := List.eq_nil_of_length_eq_zero (by omega)
      rw [e]
      exact List.nodup_nil
theorem ndL_of : ∀ l : List V, allL l → lenL l → Em.smallL l → ndL l
  | [], _, _, _ => by rw [ndL]; trivial
  | v :: r, h, hl, hs => by
    rw [allL] at h
    rw [lenL] at hl
    rw [Em.smallL] at hs
    rw [ndL]
    exact ⟨nd_of v h.1 hl.1 hs.1, ndL_of r h.2 hl.2 hs.2⟩
end
theorem idxOf_nodup {ns : List (List UInt8)} (h : ns.Nodup) {i : Nat} (hi : i < ns.length) : ns.idxOf ns[i] = i := by
  refine idx_first hi (fun j hj hji e => ?_) rfl
  have := (List.nodup_iff_pairwise_ne.1 h)
  have := List.pairwise_iff_getElem.1 this j i hj hi hji
  exact this e
theorem nd_chk {v : V} (hl : lenV v) (hc : chk v = 0) : ndV v := nd_of v (chk_ok hc).2.2 hl (len_small v hl (chk_ok hc).1)
end Go.Proofs.Ytbfogkcnfnjcaaa.Tr
