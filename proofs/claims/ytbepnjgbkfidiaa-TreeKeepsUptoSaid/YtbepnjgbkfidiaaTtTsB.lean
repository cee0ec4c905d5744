import Derived.Test.YtbepnjgbkfidiaaTtF
import Derived.Test.YtbepnjgbkfidiaaEmO
/- Sorting: what stays, plain; sorted values and being the same. -/
namespace Go.Proofs.Ytbepnjgbkfidiaa.Tr
open Go.Proofs Go.RowKit Go.Lib
open Go.Proofs.Ytbepnjgbkfidiaa.Utf
open Go.Proofs.Ytbepnjgbkfidiaa.Sc
open Go.Proofs.Ytbepnjgbkfidiaa.Re
open Go.Proofs.Ytbepnjgbkfidiaa.Em (allV allL lenV lenL own nmsOk szU szUL wfV wfL chk chk_ok chk_of len_small okW)

theorem dpL_perm {l r : List V} (h : l.Perm r) (d : Nat) : dpL l d = dpL r d := by
  induction h with
  | nil => rfl
  | cons x _ ih => rw [dpL, dpL, ih]
  | swap x y l => rw [dpL, dpL, dpL, dpL]; omega
  | trans _ _ h1 h2 => exact h1.trans h2
theorem szUL_perm {l r : List V} (h : l.Perm r) : szUL l = szUL r := by
  induction h with
  | nil => rfl
  | cons x _ ih => rw [szUL, szUL, ih]
  | swap x y l => rw [szUL, szUL, szUL, szUL]; omega
  | trans _ _ h1 h2 => exact h1.trans h2
theorem allL_perm {l r : List V} (h : l.Perm r) (ho : allL l) : allL r := by
  induction h with
  | nil => exact ho
  | cons x _ ih => rw [allL] at ho ⊢; exact ⟨ho.1, ih ho.2⟩
  | swap x y l => rw [allL, allL] at ho ⊢; exact ⟨ho.2.1, ho.1, ho.2.2⟩
  | trans _ _ h1 h2 => exact h2 (h1 ho)
theorem wfL_perm {l r : List V} (h : l.Perm r) (ho : wfL l) : wfL r := by
  induction h with
  | nil => exact ho
  | cons x _ ih => rw [wfL] at ho ⊢; exact ⟨ho.1, ih ho.2⟩
  | swap x y l => rw [wfL, wfL] at ho ⊢; exact ⟨ho.2.1, ho.1, ho.2.2⟩
  | trans _ _ h1 h2 => exact h2 (h1 ho)
theorem fst_perm {v : V} {P : List (List UInt8 × V)} (hl : v.ns.length = v.ms.length) (p : P.Perm (v.ns.zip v.ms)) : (P.map Prod.fst).Perm v.ns := by
  have := p.map Prod.fst
  rwa [List.map_fst_zip (by omega)] at this
theorem sum_perm {l r : List Nat} (h : l.Perm r) : l.sum = r.sum := by
  induction h with
  | nil => rfl
  | cons x _ ih => simp [ih]
  | swap x y l => simp; omega
  | trans _ _ h1 h2 => exact h1.trans h2
theorem allV_eq (v : V) : allV v ↔ own v.k v.n v.s v.l.length v.ns v.ms.length ∧ allL v.l ∧ allL v.ms := by cases v; rw [allV]; rfl
theorem wfV_eq (v : V) : wfV v ↔ (Lit.int .i64 v.k).wf = true ∧ (Lit.int .i64 v.n).wf = true ∧ wfL v.l ∧ wfL v.ms := by cases v; rw [wfV]; rfl
theorem szU_eq (v : V) : szU v = 1 + v.s.length + szUL v.l + (v.ns.map fun x => 1 + x.length).sum + szUL v.ms := by cases v; rw [szU]; rfl
theorem own_perm {k n : Int} {s : List UInt8} {a b : Nat} {ns nt : List (List UInt8)} (h : ns.Perm nt) (ho : own k n s a ns b) : own k n s a nt b := by
  obtain ⟨h1, h2, h3, h4, h5⟩ := ho
  refine ⟨h1, h2, h3, h4, fun hk hl => ?_⟩
  obtain ⟨q1, q2⟩ := h5 hk (by rw [h.length_eq]; exact hl)
  exact ⟨fun x hx => q1 x (h.symm.subset hx), h.nodup_iff.1 q2⟩
mutual
theorem Srt_more : ∀ (a v : V), Srt a v → lenV v → (∀ d, dp a d = dp v d) ∧ (allV v → allV a) ∧ szU a = szU v ∧ (wfV v → wfV a) ∧ lenV a
  | .mk k n s l ns ms, v, h, hl => by
    rw [Srt] at h
    obtain ⟨h1, h2, h3, h4, h5, -, P, p1, p2, p3⟩ := h
    have hv := (lenV_eq v).1 hl
    have hp := snd_perm hv.1 p1
    have hf := fst_perm hv.1 p1
    rw [p2] at hf
    obtain ⟨k1, k2, k3, k4, k5⟩ := SrtL_more l v.l h4 hv.2.1
    obtain ⟨m1, m2, m3, m4, m5⟩ := SrtL_more ms _ p3 (lenL_perm hp.symm hv.2.2)
    have e1 := ((SrtL_iff _ _).1 h4).1
    have e2 := ((SrtL_iff _ _).1 p3).1
    rw [hp.length_eq] at e2
    refine ⟨fun d => ?_, fun ho => ?_, ?_, fun ho => ?_, ?_⟩
    · cases v
      rw [dp, dp, k1, m1, dpL_perm hp]
      rfl
    · obtain ⟨o1, o2, o3⟩ := (allV_eq v).1 ho
      rw [allV]
      refine ⟨?_, k2 o2, m2 (allL_perm hp.symm o3)⟩
      rw [h1, h2, h3, e1, e2]
      exact own_perm hf.symm o1
    · rw [szU, szU_eq v, k3, m3, szUL_perm hp, h3, sum_perm (hf.map fun x => 1 + x.length)]
    · obtain ⟨o1, o2, o3, o4⟩ := (wfV_eq v).1 ho
      rw [wfV]
      exact ⟨by rw [h1]; exact o1, by rw [h2]; exact o2, k4 o3, m4 (wfL_perm hp.symm o4)⟩
    · rw [lenV]
      exact ⟨h5, k5, m5⟩
theorem SrtL_more : ∀ (l r : List V), SrtL l r → lenL r → (∀ d, dpL l d = dpL r d) ∧ (allL r → allL l) ∧ szUL l = szUL r ∧ (wfL r → wfL l) ∧ lenL l
  | [], r, h, hl => by
    rw [SrtL] at h
    subst h
    exact ⟨fun _ => rfl, fun h => h, rfl, fun h => h, hl⟩
  | x :: t, r, h, hl => by
    rw [SrtL] at h
    obtain ⟨y, u, rfl, h1, h2⟩ := h
    rw [lenL] at hl
    obtain ⟨k1, k2, k3, k4, k5⟩ := Srt_more x y h1 hl.1
    obtain ⟨m1, m2, m3, m4, m5⟩ := SrtL_more t u h2 hl.2
    refine ⟨fun d => by rw [dpL, dpL, k1, m1], fun ho => ?_, by rw [szUL, szUL, k3, m3], fun ho => ?_, by rw [lenL]; exact ⟨k5, m5⟩⟩
    · rw [allL] at ho ⊢
      exact ⟨k2 ho.1, m2 ho.2⟩
    · rw [wfL] at ho ⊢
      exact ⟨k4 ho.1, m4 ho.2⟩
end
theorem Srt_chk {a v : V} (h : Srt a v) (hl : lenV v) (hc : chk v = 0) : chk a = 0 := by
  obtain ⟨q1, q2, q3⟩ := chk_ok hc
  obtain ⟨k1, k2, -⟩ := Srt_more a v h hl
  exact chk_of (by rw [(Srt_keeps a v h hl).1]; exact q1) (by rw [k1]; exact q2) (k2 q3)
mutual
theorem Srt_self : ∀ (a v : V), Srt a v → Srt a a
  | .mk k n s l ns ms, v, h => by
    rw [Srt] at h
    obtain ⟨h1, h2, h3, h4, h5, h6, P, p1, p2, p3⟩ := h
    rw [Srt]
    refine ⟨rfl, rfl, rfl, SrtL_self l _ h4, h5, h6, ns.zip ms, List.Perm.refl _, List.map_fst_zip (by omega), ?_⟩
    rw [List.map_snd_zip (by omega)]
    exact SrtL_self ms _ p3
theorem SrtL_self : ∀ (l r : List V), SrtL l r → SrtL l l
  | [], r, _ => by rw [SrtL]
  | x :: t, r, h => by
    rw [SrtL] at h
    obtain ⟨y, u, rfl, h1, h2⟩ := h
    rw [SrtL]
    exact ⟨x, t, rfl, Srt_self x y h1, SrtL_self t u h2⟩
end
mutual
/-- no map has a name twice -/
def ndV : V → Prop
  | .mk _ _ _ l ns ms => ns.Nodup ∧ ndL l ∧ ndL ms
def ndL : List V → Prop
  | [] => True
  | v :: r => ndV v ∧ ndL r
end
theorem ndV_eq (v : V) : ndV v ↔ v.ns.Nodup ∧ ndL v.l ∧ ndL v.ms := by cases v; rw [ndV]; rfl
theorem ndL_mem {v : V} : ∀ {l : List V}, ndL l → v ∈ l → ndV v
  | [], _, h => by cases h
  | a :: r, h, hv => by
    rw [ndL] at h
    rcases List.mem_cons.1 hv with rfl | hv
    · exact h.1
    · exact ndL_mem h.2 hv
mutual
theorem nd_of : ∀ v : V, allV v → lenV v → Em.small v → ndV v
  | .mk k n s l ns ms, h, hl, hs => by
    rw [allV] at h
    rw [lenV] at hl
    rw [Em.small] at hs
    rw [ndV]
    refine ⟨?_, ndL_of l h.2.1 hl.2.1 hs.2.1, ndL_of ms h.2.2 hl.2.2 hs.2.2⟩
    by_cases hk : k = 6
    · exact (h.1.2.2.2.2 hk hs.1).2
    · have := h.1.1.2.2.2.2 hk
      have e : ns = [] := List.eq_nil_of_length_eq_zero (by omega)
      rw [e]
      exact List.nodup_nil
theorem ndL_of : ∀ l : List V, allL l → lenL l → Em.smallL l → ndL l
  | [], _, _, _ => by rw [ndL]; trivial
  | v :: r, h, hl, hs => by
    rw [allL] at h
    rw [lenL] at hl
    rw [Em.smallL] at hs
    rw [ndL]
    exact ⟨nd_of v h.1 hl.1 hs.1, ndL_of r h.2 hl.2 hs.2⟩
end
/-- the first of a name, in names that are all distinct -/
theorem idxOf_nodup {ns : List (List UInt8)} (h : ns.Nodup) {i : Nat} (hi : i < ns.length) : ns.idxOf ns[i] = i := by
  refine idx_first hi (fun j hj hji e => ?_) rfl
  have := (List.nodup_iff_pairwise_ne.1 h)
  have := List.pairwise_iff_getElem.1 this j i hj hi hji
  exact this e
theorem lenL_mem' {v : V} : ∀ {l : List V}, lenL l → v ∈ l → lenV v
  | [], _, h => by cases h
  | a :: r, h, hv => by
    rw [lenL] at h
    rcases List.mem_cons.1 hv with rfl | hv
    · exact h.1
    · exact lenL_mem' h.2 hv
/-- SORTED ALIKE: THE SAME -/
theorem same_of : ∀ (h : Nat) (a v u : V), ht a ≤ h → Srt a v → Srt a u → lenV v → lenV u → oV v → ndV u → same v u
  | 0, a, _, _, hh, _, _, _, _, _, _ => by rw [ht_eq] at hh; omega
  | h + 1, a, v, u, hh, hv, hu, lv, lu, ov, nu => by
    obtain ⟨a1, a2, a3, a4, a5, -, P, p1, p2, p3⟩ := (Srt_eq a v).1 hv
    obtain ⟨b1, b2, b3, b4, -, -, Q, q1, q2, q3⟩ := (Srt_eq a u).1 hu
    obtain ⟨lv1, lv2, lv3⟩ := (lenV_eq v).1 lv
    obtain ⟨lu1, lu2, lu3⟩ := (lenV_eq u).1 lu
    obtain ⟨ov1, ov2, ov3, ov4⟩ := (oV_eq v).1 ov
    obtain ⟨nu1, nu2, nu3⟩ := (ndV_eq u).1 nu
    have hht := ht_eq a
    obtain ⟨s1, s2⟩ := (SrtL_iff _ _).1 a4
    obtain ⟨t1, t2⟩ := (SrtL_iff _ _).1 b4
    obtain ⟨m1, m2⟩ := (SrtL_iff _ _).1 p3
    obtain ⟨n1, n2⟩ := (SrtL_iff _ _).1 q3
    have hk : v.k = u.k := a1.symm.trans b1
    have hPl := (snd_perm lv1 p1).length_eq
    have hQl := (snd_perm lu1 q1).length_eq
    rw [same_eq]
    refine ⟨hk, a2.symm.trans b2, a3.symm.trans b3, ?_, ?_, ?_⟩
    · rw [sameL_iff]
      unfold inL
      rw [← hk]
      by_cases hk5 : v.k = 5
      · simp only [if_pos hk5]
        refine ⟨s1.symm.trans t1, fun i h1 h2 => ?_⟩
        have hi : i < a.l.length := by omega
        have hm := htL_mem (List.getElem_mem hi)
        exact same_of h a.l[i] v.l[i] u.l[i] (by omega) (s2 i hi h1) (t2 i hi h2) (lenL_mem' lv2 (List.getElem_mem h1)) (lenL_mem' lu2 (List.getElem_mem h2)) (oL_mem ov3 (List.getElem_mem h1)) (ndL_mem nu2 (List.getElem_mem h2))
      · simp only [if_neg hk5]
        exact ⟨trivial, fun i h => by simp at h⟩
    · unfold inM
      rw [← hk]
      by_cases hk6 : v.k = 6
      · simp only [if_pos hk6]; omega
      · simp only [if_neg hk6]
    · rw [sameM_iff _ _ _ _ (by unfold inN inM; split <;> simp [lv1])]
      unfold inM inN
      rw [← hk]
      by_cases hk6 : v.k = 6
      · simp only [if_pos hk6]
        intro i h1 h2
        have hzv : i < (v.ns.zip v.ms).length := by rw [List.length_zip]; omega
        have hmem : (v.ns.zip v.ms)[i] ∈ P := p1.symm.subset (List.getElem_mem hzv)
        rw [List.getElem_zip] at hmem
        obtain ⟨j, hj, ej⟩ := List.getElem_of_mem hmem
        have hja : j < a.ms.length := by rw [m1, List.length_map]; exact hj
        have hjq : j < Q.length := by rw [n1, List.length_map] at hja; exact hja
        have hjn : j < a.ns.length := by omega
        have x1 : a.ns[j] = v.ns[i] := by
          have : a.ns[j] = (P.map Prod.fst)[j]'(by simpa using hj) := by simp only [p2]
          rw [this, List.getElem_map, ej]
        have x2 : a.ns[j] = Q[j].1 := by
          have : a.ns[j] = (Q.map Prod.fst)[j]'(by simpa using hjq) := by simp only [q2]
          rw [this, List.getElem_map]
        have y1 : Srt a.ms[j] v.ms[i] := by
          have := m2 j hja (by simpa using hj)
          rwa [List.getElem_map, ej] at this
        have y2 : Srt a.ms[j] Q[j].2 := by
          have := n2 j hja (by simpa using hjq)
          rwa [List.getElem_map] at this
        have hqm : Q[j] ∈ u.ns.zip u.ms := q1.subset (List.getElem_mem hjq)
        obtain ⟨t, ht', et⟩ := List.getElem_of_mem hqm
        rw [List.length_zip] at ht'
        rw [List.getElem_zip] at et
        have htn : t < u.ns.length := by omega
        have htm : t < u.ms.length := by omega
        have e1 : u.ns[t] = v.ns[i] := by rw [← x1, x2, ← et]
        have e2 : Q[j].2 = u.ms[t] := by rw [← et]
        refine ⟨by rw [← e1]; exact List.getElem_mem htn, u.ms[t], ?_, ?_⟩
        · rw [← e1, idxOf_nodup nu1 htn, List.getElem?_eq_getElem htm]
        · rw [e2] at y2
          have hm := htL_mem (List.getElem_mem hja)
          exact same_of h a.ms[j] v.ms[i] u.ms[t] (by omega) y1 y2 (lenL_mem' lv3 (List.getElem_mem h1)) (lenL_mem' lu3 (List.getElem_mem htm)) (oL_mem ov4 (List.getElem_mem h1)) (ndL_mem nu3 (List.getElem_mem htm))
      · simp only [if_neg hk6]
        intro i h1
        simp at h1
theorem perm_of_nodup : ∀ (l r : List (List UInt8)), l.Nodup → (∀ x ∈ l, x ∈ r) → l.length = r.length → l.Perm r
  | [], r, _, _, hl => by rw [List.eq_nil_of_length_eq_zero hl.symm]
  | x :: t, r, hn, hs, hl => by
    have hx := hs x (by simp)
    have hp := List.perm_cons_erase hx
    rw [List.nodup_cons] at hn
    have := perm_of_nodup t (r.erase x) hn.2 (fun y hy => by
      have hne : y ≠ x := fun e => hn.1 (e ▸ hy)
      exact (List.mem_erase_of_ne hne).2 (hs y (by simp [hy]))) (by have := hp.length_eq; simp at this hl; omega)
    exact (this.cons x).trans hp.symm
/-- names in their order, that are the same ones -/
theorem sorted_eq : ∀ (l r : List (List UInt8)), l.Perm r → l.Pairwise (fun a b => ltN b a = false) → r.Pairwise (fun a b => ltN b a = false) → l = r
  | [], r, hp, _, _ => by rw [List.nil_perm.1 hp]
  | x :: t, r, hp, h1, h2 => by
    cases r with
    | nil => exact absurd hp.length_eq (by simp)
    | cons y u =>
      rw [List.pairwise_cons] at h1 h2
      have e : x = y := by
        rcases List.mem_cons.1 (hp.subset (show x ∈ x :: t by simp)) with h | h
        · exact h
        · rcases List.mem_cons.1 (hp.symm.subset (show y ∈ y :: u by simp)) with k | k
          · exact k.symm
          · exact (ltN_eq (h2.1 x h) (h1.1 y k)).symm ▸ rfl
      subst e
      rw [sorted_eq t u (List.perm_cons x |>.1 hp) h1.2 h2.2]
theorem V_eq : ∀ {a b : V}, a.k = b.k → a.n = b.n → a.s = b.s → a.l = b.l → a.ns = b.ns → a.ms = b.ms → a = b
  | .mk .., .mk .., rfl, rfl, rfl, rfl, rfl, rfl => rfl
/-- THE SAME: SORTED ALIKE -/
theorem eq_of : ∀ (h : Nat) (a b v u : V), ht a ≤ h → Srt a v → Srt b u → same v u → lenV v → lenV u → oV v → oV u → ndV v → ndV u → a = b
  | 0, a, _, _, _, hh, _, _, _, _, _, _, _, _, _ => by rw [ht_eq] at hh; omega
  | h + 1, a, b, v, u, hh, hv, hu, hs, lv, lu, ov, ou, nv, nu => by
    obtain ⟨a1, a2, a3, a4, a5, a6, P, p1, p2, p3⟩ := (Srt_eq a v).1 hv
    obtain ⟨b1, b2, b3, b4, b5, b6, Q, q1, q2, q3⟩ := (Srt_eq b u).1 hu
    obtain ⟨lv1, lv2, lv3⟩ := (lenV_eq v).1 lv
    obtain ⟨lu1, lu2, lu3⟩ := (lenV_eq u).1 lu
    obtain ⟨ov1, ov2, ov3, ov4⟩ := (oV_eq v).1 ov
    obtain ⟨ou1, ou2, ou3, ou4⟩ := (oV_eq u).1 ou
    obtain ⟨nu1, nu2, nu3⟩ := (ndV_eq u).1 nu
    obtain ⟨nv1, nv2, nv3⟩ := (ndV_eq v).1 nv
    obtain ⟨h1, h2, h3, h4, h5, h6⟩ := (same_eq v u).1 hs
    have hht := ht_eq a
    obtain ⟨s1, s2⟩ := (SrtL_iff _ _).1 a4
    obtain ⟨t1, t2⟩ := (SrtL_iff _ _).1 b4
    obtain ⟨m1, m2⟩ := (SrtL_iff _ _).1 p3
    obtain ⟨n1, n2⟩ := (SrtL_iff _ _).1 q3
    have hPl := (snd_perm lv1 p1).length_eq
    have hQl := (snd_perm lu1 q1).length_eq
    have iL : inL v = v.l ∧ inL u = u.l := by
      unfold inL
      rw [← h1]
      by_cases hk : v.k = 5
      · simp only [if_pos hk]; exact ⟨trivial, trivial⟩
      · simp only [if_neg hk]; exact ⟨(ov1 hk).symm, (ou1 (by rw [← h1]; exact hk)).symm⟩
    have iM : inM v = v.ms ∧ inM u = u.ms ∧ inN v = v.ns ∧ inN u = u.ns := by
      unfold inM inN
      rw [← h1]
      by_cases hk : v.k = 6
      · simp only [if_pos hk]; exact ⟨trivial, trivial, trivial, trivial⟩
      · have e1 := ov2 hk
        have e2 := ou2 (by rw [← h1]; exact hk)
        have e3 : v.ns = [] := List.eq_nil_of_length_eq_zero (by rw [lv1, e1]; rfl)
        have e4 : u.ns = [] := List.eq_nil_of_length_eq_zero (by rw [lu1, e2]; rfl)
        simp only [if_neg hk]
        exact ⟨e1.symm, e2.symm, e3.symm, e4.symm⟩
    rw [iL.1, iL.2, sameL_iff] at h4
    rw [iM.1, iM.2.1] at h5
    rw [iM.1, iM.2.1, iM.2.2.1, iM.2.2.2, sameM_iff _ _ _ _ lv1] at h6
    have hal : a.l = b.l := by
      refine List.ext_getElem (by omega) fun i i1 i2 => ?_
      have hm := htL_mem (List.getElem_mem i1)
      have j1 : i < v.l.length := by omega
      have j2 : i < u.l.length := by omega
      exact eq_of h a.l[i] b.l[i] v.l[i] u.l[i] (by omega) (s2 i i1 j1) (t2 i i2 j2) (h4.2 i j1 j2) (lenL_mem' lv2 (List.getElem_mem j1)) (lenL_mem' lu2 (List.getElem_mem j2)) (oL_mem ov3 (List.getElem_mem j1)) (oL_mem ou3 (List.getElem_mem j2)) (ndL_mem nv2 (List.getElem_mem j1)) (ndL_mem nu2 (List.getElem_mem j2))
    have hvu : v.ns.Perm u.ns := by
      refine perm_of_nodup v.ns u.ns nv1 (fun x hx => ?_) (by omega)
      obtain ⟨i, hi, rfl⟩ := List.getElem_of_mem hx
      exact (h6 i (by omega) hi).1
    have fa := fst_perm lv1 p1
    have fb := fst_perm lu1 q1
    rw [p2] at fa
    rw [q2] at fb
    have hns : a.ns = b.ns := sorted_eq _ _ (fa.trans (hvu.trans fb.symm)) a6 b6
    have hms : a.ms = b.ms := by
      refine List.ext_getElem (by rw [← a5, ← b5, hns]) fun j i1 i2 => ?_
      have hm := htL_mem (List.getElem_mem i1)
      have jP : j < P.length := by rw [m1, List.length_map] at i1; exact i1
      have jQ : j < Q.length := by rw [n1, List.length_map] at i2; exact i2
      have c1 : a.ns[j]'(by omega) = P[j].1 := by
        have : a.ns[j]'(by omega) = (P.map Prod.fst)[j]'(by simpa using jP) := by simp only [p2]
        rw [this, List.getElem_map]
      have c2 : b.ns[j]'(by omega) = Q[j].1 := by
        have : b.ns[j]'(by omega) = (Q.map Prod.fst)[j]'(by simpa using jQ) := by simp only [q2]
        rw [this, List.getElem_map]
      have c3 : P[j].1 = Q[j].1 := by rw [← c1, ← c2]; simp only [hns]
      have y1 := m2 j i1 (by simpa using jP)
      have y2 := n2 j i2 (by simpa using jQ)
      rw [List.getElem_map] at y1 y2
      obtain ⟨x, hx, ex⟩ := List.getElem_of_mem (p1.subset (List.getElem_mem jP))
      obtain ⟨t, ht', et⟩ := List.getElem_of_mem (q1.subset (List.getElem_mem jQ))
      rw [List.length_zip] at hx ht'
      rw [List.getElem_zip] at ex et
      have x1 : x < v.ns.length := by omega
      have x2 : x < v.ms.length := by omega
      have z1 : t < u.ns.length := by omega
      have z2 : t < u.ms.length := by omega
      rw [← ex] at y1 c3
      rw [← et] at y2 c3
      obtain ⟨_, y, w1, w2⟩ := h6 x x2 x1
      simp only at c3 y1 y2
      rw [c3, idxOf_nodup nu1 z1, List.getElem?_eq_getElem z2] at w1
      injection w1 with w1
      rw [← w1] at w2
      exact eq_of h a.ms[j] b.ms[j] v.ms[x] u.ms[t] (by omega) y1 y2 w2 (lenL_mem' lv3 (List.getElem_mem x2)) (lenL_mem' lu3 (List.getElem_mem z2)) (oL_mem ov4 (List.getElem_mem x2)) (oL_mem ou4 (List.getElem_mem z2)) (ndL_mem nv3 (List.getElem_mem x2)) (ndL_mem nu3 (List.getElem_mem z2))
    exact V_eq (a1.trans (h1.trans b1.symm)) (a2.trans (h2.trans b2.symm)) (a3.trans (h3.trans b3.symm)) hal hns hms
theorem nd_chk {v : V} (hl : lenV v) (hc : chk v = 0) : ndV v := nd_of v (chk_ok hc).2.2 hl (len_small v hl (chk_ok hc).1)
end Go.Proofs.Ytbepnjgbkfidiaa.Tr
