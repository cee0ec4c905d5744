/- Merged: PoBk. -/
import Derived.Test.YtmfpaoincgfjmaaTt25
import Derived.Test.YtmfpaoincgfjmaaTt15
import Derived.Test.YtmfpaoincgfjmaaTt22
namespace Go.Proofs.Ytmfpaoincgfjmaa.Po
open Go.Proofs.Ytmfpaoincgfjmaa.Utf
open Go.Proofs.Ytmfpaoincgfjmaa.Sc
open Go.Proofs.Ytmfpaoincgfjmaa.Re
open Go.Proofs.Ytmfpaoincgfjmaa.Tr
open Go.Proofs.Ytmfpaoincgfjmaa.Nu
open Go.Proofs.Ytmfpaoincgfjmaa.Em

theorem allV_eq8 (v : V) : allV v ↔ own v.k v.n v.s v.l.length v.ns v.ms.length ∧ allL v.l ∧ allL v.ms := by cases v; rw [allV]; rfl
theorem allL_mem8 {v : V} : ∀ {l : List V}, allL l → v ∈ l → allV v
  | a :: r, h, hv => by
    rw [allL] at h
    rcases List.mem_cons.1 hv with rfl | hv
    · exact h.1
    · exact allL_mem8 h.2 hv
theorem szU_eq8 (v : V) : szU v = 1 + v.s.length + szUL v.l + (v.ns.map fun x => 1 + x.length).sum + szUL v.ms := by cases v; rw [szU]; rfl
def Gd (x : V) : Prop := allV x ∧ nmV' x ∧ cnt x ≤ 8192 ∧ szA 140737488355328 x
theorem sum_mem8 {q : List UInt8} : ∀ {ns : List (List UInt8)}, q ∈ ns → 1 + q.length ≤ (ns.map fun x => 1 + x.length).sum
  | p :: r, h => by
    rw [List.map_cons, List.sum_cons]
    rcases List.mem_cons.1 h with rfl | h
    · omega
    · have := sum_mem8 h; omega
theorem Gd.l {x : V} (h : Gd x) (i : Nat) (hi : i < x.l.length) : Gd x.l[i] ∧ stepV x (putL i) = some x.l[i] ∧ szU x.l[i] + 1 ≤ szU x ∧ i ≤ 8192 := by
  obtain ⟨h1, h2, h3, h4⟩ := h
  obtain ⟨o1, o2, o3⟩ := (allV_eq8 x).1 h1
  have hm : x.l[i] ∈ x.l := List.getElem_mem hi
  have hk : x.k = 5 := Classical.byContradiction fun e => by have := o1.1.2.2.2.1 e; omega
  have hc := cnt_mem hm
  rw [cnt_eq] at h3
  have hlc := len_cntL x.l
  have hsz := szUL_mem hm
  rw [szU_eq8 x]
  refine ⟨⟨allL_mem8 o2 hm, nmL'_mem ((nmV'_eq x).1 h2).2.1 hm, by omega, (sz_down _ x h4).1 _ hm⟩, step_put x i hk hi (by omega), by omega, by omega⟩
theorem Gd.m {x : V} (h : Gd x) (i : Nat) (hi : i < x.ms.length) (hn : i < x.ns.length) : Gd x.ms[i] ∧ stepV x x.ns[i] = some x.ms[i] ∧ szU x.ms[i] + (1 + x.ns[i].length) + 1 ≤ szU x := by
  obtain ⟨h1, h2, h3, h4⟩ := h
  obtain ⟨o1, o2, o3⟩ := (allV_eq8 x).1 h1
  have hm : x.ms[i] ∈ x.ms := List.getElem_mem hi
  have hnm : x.ns[i] ∈ x.ns := List.getElem_mem hn
  have hk : x.k = 6 := Classical.byContradiction fun e => by have := o1.1.2.2.2.2 e; omega
  have hc := cnt_mem hm
  have hlen := ((nmV'_eq x).1 h2).1
  rw [cnt_eq] at h3
  have hlc := len_cntL x.ms
  have hsz := szUL_mem hm
  have hsn := sum_mem8 hnm
  have hnd : x.ns.Nodup := (o1.2.2.2.2 hk (by omega)).2
  rw [szU_eq8 x]
  refine ⟨⟨allL_mem8 o3 hm, nmL'_mem ((nmV'_eq x).1 h2).2.2 hm, by omega, (sz_down _ x h4).2 _ hm⟩, ?_, by omega⟩
  have hin : inN x = x.ns := if_pos hk
  have him : inM x = x.ms := if_pos hk
  unfold stepV
  rw [if_pos hk, hin, if_pos hnm]
  have hix : x.ns.idxOf x.ns[i] = i := hnd.idxOf_getElem i hn
  unfold getV
  rw [hin, him, hix, List.getD_eq_getElem?_getD, List.getElem?_eq_getElem hi]
  rfl
theorem lead_ext {ats : List (List UInt8)} {v x y : V} {p : List UInt8} (h : leadV ats v = some x) (hs : stepV x p = some y) : leadV (ats ++ [p]) v = some y := by
  rw [lead_app, h]
  show (stepV x p).bind (leadV []) = _
  rw [hs]
  rfl
theorem putL_len8 (i : Nat) : (putL i).length ≤ 21 := (putL_len i).2
theorem plen_snoc (ats : List (List UInt8)) (p : List UInt8) : plen (ats ++ [p]) = plen ats + 1 + 2 * p.length := by
  rw [plen_app, plen, plen]
  omega
end Go.Proofs.Ytmfpaoincgfjmaa.Po
