/- Merged: PaPl3 PaAw0 PaCh. -/
import Derived.Test.YtbfogkcnfnjcaaaTt37
import Derived.Test.YtbfogkcnfnjcaaaTt34
import Derived.Test.YtbfogkcnfnjcaaaTt7
import Derived.Test.YtbfogkcnfnjcaaaTt22
namespace Go.Proofs.Ytbfogkcnfnjcaaa.Pa
open Go.Proofs Go.RowKit
open Go.Proofs.Ytbfogkcnfnjcaaa.Utf
open Go.Proofs.Ytbfogkcnfnjcaaa.Sc
open Go.Proofs.Ytbfogkcnfnjcaaa.Re
open Go.Proofs.Ytbfogkcnfnjcaaa.Tr
open Go.Proofs.Ytbfogkcnfnjcaaa.Po
open Go.Proofs.Ytbfogkcnfnjcaaa.Em (lenV lenL szU szUL wfV wfL allV allL)

theorem esc_126 (part : List UInt8) : esc (part ++ [126]) = esc part ++ [126, 48] := by rw [esc_app]; rfl
theorem esc_47 (part : List UInt8) : esc (part ++ [47]) = esc part ++ [126, 49] := by rw [esc_app]; rfl
theorem esc_c (part : List UInt8) {c : UInt8} (h1 : c ≠ 126) (h2 : c ≠ 47) : esc (part ++ [c]) = esc part ++ [c] := by
  rw [esc_app]
  congr 1
  rw [esc, if_neg h1, if_neg h2]
  rfl
theorem ptxt_pgo : ∀ (r : List UInt8) (b : Bool) (part : List UInt8) (ps : List (List UInt8)), pgo b part r = some ps → ptxt ps = 47 :: esc part ++ (if b = true then 126 :: r else r)
  | [], false, part, ps, h => by
    rw [pgo_f_nil] at h; injection h with h; subst h
    simp [ptxt]
  | [], true, part, ps, h => by rw [pgo_t_nil] at h; cases h
  | c :: r, true, part, ps, h => by
    rw [pgo_t_cons] at h
    split at h
    · rename_i hc; subst hc
      rw [ptxt_pgo r _ _ _ h, esc_126]
      simp
    · split at h
      · rename_i hc; subst hc
        rw [ptxt_pgo r _ _ _ h, esc_47]
        simp
      · cases h
  | c :: r, false, part, ps, h => by
    rw [pgo_f_cons] at h
    split at h
    · rename_i hc; subst hc
      rw [ptxt_pgo r _ _ _ h]
      simp
    · split at h
      · rename_i hc; subst hc
        obtain ⟨q, hq, rfl⟩ := Option.map_eq_some_iff.1 h
        have := ptxt_pgo r _ _ _ hq
        rw [ptxt, this]
        simp [esc]
      · rename_i h1 h2
        rw [ptxt_pgo r _ _ _ h, esc_c part h1 h2]
        simp
theorem ptxt_prts {nm : List UInt8} {ps : List (List UInt8)} (h : prts (47 :: nm) = some ps) : ptxt ps = 47 :: nm := by
  rw [prts, if_pos rfl] at h
  have := ptxt_pgo _ _ _ _ h
  simpa [esc] using this
theorem ptxt_head : ∀ ps : List (List UInt8), ptxt ps = [] ∨ ∃ t, ptxt ps = 47 :: t
  | [] => .inl rfl
  | p :: r => .inr ⟨esc p ++ ptxt r, rfl⟩
theorem bg_iff {a b : List UInt8} {pa pb : List (List UInt8)} (ha : prts (47 :: a) = some pa) (hb : prts (47 :: b) = some pb) : bgB a b = true ↔ pa <+: pb := by
  constructor
  · intro h
    obtain ⟨r, rfl, hr⟩ := bgB_of h
    rcases hr with rfl | ⟨t, rfl⟩
    · rw [List.append_nil, ha] at hb
      injection hb with hb
      subst hb
      exact List.prefix_refl _
    · have := prts_app (t := t) ha
      rw [List.cons_append, hb] at this
      obtain ⟨q, _, e⟩ := Option.map_eq_some_iff.1 this.symm
      exact ⟨q, e⟩
  · rintro ⟨q, rfl⟩
    have h1 := ptxt_prts ha
    have h2 := ptxt_prts hb
    rw [ptxt_app, h1, List.cons_append] at h2
    injection h2 with _ h2
    rw [← h2]
    exact bgB_app (ptxt_head q)
theorem ap_iff {a b : List UInt8} {pa pb : List (List UInt8)} (ha : prts (47 :: a) = some pa) (hb : prts (47 :: b) = some pb) : apN a b ↔ apP pa pb := by
  unfold apN apP
  rw [← bg_iff ha hb, ← bg_iff hb ha, Bool.not_eq_true, Bool.not_eq_true]
  exact And.comm
theorem apN.symm {a b : List UInt8} (h : apN a b) : apN b a := ⟨h.2, h.1⟩
theorem pth_of {nm : List UInt8} {ps : List (List UInt8)} (h : prts (47 :: nm) = some ps) : pth nm = ps := by unfold pth; rw [h]; rfl
theorem pth_len (nm : List UInt8) : ((pth nm).map List.length).sum ≤ nm.length := by
  unfold pth
  cases h : prts (47 :: nm) with
  | none => simp
  | some ps =>
    rw [prts, if_pos rfl] at h
    have := (pgo_len _ _ _ _ h).2
    simpa using this

def lst (p : V) : List (List (List UInt8) × V) := (p.ns.zip p.ms).map fun x => (pth x.1, x.2)
theorem lst_len {p : V} (h : p.ns.length = p.ms.length) : (lst p).length = p.ms.length := by
  unfold lst; rw [List.length_map, List.length_zip, h, Nat.min_self]
theorem lst_get {p : V} {i : Nat} (h : i < (lst p).length) (h1 : i < p.ns.length) (h2 : i < p.ms.length) : (lst p)[i] = (pth p.ns[i], p.ms[i]) := by
  simp only [lst, List.getElem_map, List.getElem_zip]
theorem lst_mem {p : V} {m : List (List UInt8) × V} (h : m ∈ lst p) : ∃ nm ∈ p.ns, m.2 ∈ p.ms ∧ m.1 = pth nm := by
  unfold lst at h
  obtain ⟨⟨a, b⟩, hx, rfl⟩ := List.mem_map.1 h
  obtain ⟨h1, h2⟩ := List.of_mem_zip hx
  exact ⟨a, h1, h2, rfl⟩
theorem ns_len {p : V} (h : lenV p) : p.ns.length = p.ms.length := by cases p; rw [lenV] at h; exact h.1
theorem fit_of {v p : V} (h : fitP v p) (hl : lenV p) : Fit v (lst p) := by
  obtain ⟨-, -, -, h4, h5⟩ := h
  refine ⟨fun m hm => ?_, ?_⟩
  · obtain ⟨nm, h1, h2, h3⟩ := lst_mem hm
    obtain ⟨ps, e, ho⟩ := h4 nm h1
    rw [h3, pth_of e]
    exact ⟨ho, lenV_ms hl _ h2⟩
  · unfold lst
    rw [List.pairwise_map]
    have h6 : p.ns.Pairwise fun a b => apP (pth a) (pth b) := h5.imp_of_mem fun {a b} ha hb hab => by
      obtain ⟨pa, e1, -⟩ := h4 a ha
      obtain ⟨pb, e2, -⟩ := h4 b hb
      rw [pth_of e1, pth_of e2]
      exact (ap_iff e1 e2).1 hab
    have h7 : ((p.ns.zip p.ms).map Prod.fst).Pairwise fun a b => apP (pth a) (pth b) := by
      rw [List.map_fst_zip (by rw [ns_len hl]; exact Nat.le_refl _)]; exact h6
    rw [List.pairwise_map] at h7
    exact h7
theorem fit_perm {v p q : V} (hk : q.k = p.k) (hm : q.ms.length = p.ms.length) (hp : q.ns.Perm p.ns) (h : fitP v p) : fitP v q :=
  ⟨h.1, hk.trans h.2.1, by rw [hm]; exact h.2.2.1, fun nm hn => h.2.2.2.1 nm (hp.mem_iff.1 hn), hp.symm.pairwise h.2.2.2.2 fun h => h.symm⟩
theorem lst_perm {p q : V} (h : (q.ns.zip q.ms).Perm (p.ns.zip p.ms)) : (lst p).Perm (lst q) := (h.symm).map _

theorem Fit.drop : ∀ (k : Nat) {v : V} {L : List (List (List UInt8) × V)}, lenV v → Fit v L → Fit (aplV v (L.take k)) (L.drop k) ∧ lenV (aplV v (L.take k))
  | 0, v, L, hv, h => ⟨h, hv⟩
  | k + 1, v, [], hv, h => ⟨h, hv⟩
  | k + 1, v, m :: L, hv, h => by
    obtain ⟨h1, h2⟩ := h.next hv
    exact Fit.drop k h2 h1
theorem apl_succ {v : V} {L : List (List (List UInt8) × V)} {k : Nat} (h : k < L.length) : aplV v (L.take (k + 1)) = stpV (aplV v (L.take k)) L[k] := by
  unfold aplV
  rw [List.take_succ_eq_append_getElem h, List.foldl_append]
  rfl
theorem Fit.at_ {v : V} {L : List (List (List UInt8) × V)} {k : Nat} (h : Fit v L) (hv : lenV v) (hk : k < L.length) : okP L[k].1 (aplV v (L.take k)) := by
  have h1 := (Fit.drop k hv h).1
  refine (h1.1 L[k] ?_).1
  rw [List.mem_iff_getElem]
  exact ⟨0, by rw [List.length_drop]; omega, by rw [List.getElem_drop]; simp⟩
theorem Fit.take {v : V} {L : List (List (List UInt8) × V)} (k : Nat) (h : Fit v L) : Fit v (L.take k) := ⟨fun m hm => h.1 m (List.mem_of_mem_take hm), h.2.sublist (List.take_sublist _ _)⟩
theorem sum_take_le : ∀ (l : List Nat) (k : Nat), (l.take k).sum ≤ l.sum
  | [], k => by simp
  | a :: l, 0 => by simp
  | a :: l, k + 1 => by
    have := sum_take_le l k
    simp only [List.take_succ_cons, List.sum_cons]
    omega
theorem zip_sum : ∀ (ns : List (List UInt8)) (ms : List V), ((((ns.zip ms).map fun x => (pth x.1, x.2)).map fun m => szU m.2 + 1 + (m.1.map List.length).sum).sum) ≤ (ns.map fun x => 1 + x.length).sum + szUL ms
  | [], ms => by simp
  | _ :: _, [] => by simp
  | n :: ns, m :: ms => by
    have h1 := zip_sum ns ms
    have h2 := pth_len n
    simp only [List.zip_cons_cons, List.map_cons, List.sum_cons, szUL] at h1 ⊢
    omega
theorem szU_take {v p : V} (h : Fit v (lst p)) (hv : lenV v) (k : Nat) : szU (aplV v ((lst p).take k)) ≤ szU v + szU p := by
  have h1 := szU_apl _ v (h.take k) hv
  have h2 : ((lst p).map fun m => szU m.2 + 1 + (m.1.map List.length).sum).sum ≤ (p.ns.map fun x => 1 + x.length).sum + szUL p.ms := zip_sum p.ns p.ms
  have h3 := sum_take_le ((lst p).map fun m => szU m.2 + 1 + (m.1.map List.length).sum) k
  rw [← List.map_take] at h3
  have h4 := szU_eq' p
  omega
theorem apl_all (v : V) (L : List (List (List UInt8) × V)) : aplV v (L.take L.length) = aplV v L := by rw [List.take_length]

theorem ndL_of' : ∀ {l : List V}, (∀ v ∈ l, ndV v) → ndL l
  | [], _ => by rw [ndL]; trivial
  | a :: r, h => by rw [ndL]; exact ⟨h a (by simp), ndL_of' fun v hv => h v (by simp [hv])⟩
theorem nd_mp {ns : List (List UInt8)} {ms : List V} (h : ns.Nodup) (h2 : ∀ y ∈ ms, ndV y) : ndV (mpV (ns, ms)) := by
  rw [ndV_eq]
  exact ⟨h, by show ndL []; rw [ndL]; trivial, ndL_of' h2⟩
theorem nd_ms {v : V} (h : ndV v) : ∀ y ∈ v.ms, ndV y := fun _ hy => ndL_mem ((ndV_eq v).1 h).2.2 hy
theorem nd_in {v : V} (h : ndV v) : (inN v).Nodup := by
  unfold inN; split
  · exact ((ndV_eq v).1 h).1
  · exact List.nodup_nil
theorem nd_withN {v : V} (h : ndV v) (p : List UInt8) : (withN v p).Nodup := by
  unfold withN; split
  · exact nd_in h
  · rename_i hp
    rw [List.nodup_append]
    exact ⟨nd_in h, by simp, fun a ha b hb e => hp (by rw [List.mem_singleton] at hb; rw [← hb, ← e]; exact ha)⟩
theorem nd_woN {v : V} (h : ndV v) (hl : lenV v) (p : List UInt8) : (woN v p).Nodup := by
  unfold woN
  have h1 : ((inN v).zip (inM v)).map Prod.fst = inN v := List.map_fst_zip (by rw [inM_len hl]; exact Nat.le_refl _)
  have h2 : ((((inN v).zip (inM v)).filter fun q => q.1 ≠ p).map Prod.fst).Sublist (((inN v).zip (inM v)).map Prod.fst) := List.Sublist.map _ List.filter_sublist
  rw [h1] at h2
  exact h2.nodup (nd_in h)
theorem nd_chg : ∀ {ps : List (List UInt8)} {x v : V}, okP ps v → lenV v → ndV v → ndV x → ndV (chgV ps x v)
  | [], _, _, h, _, _, _ => h.elim
  | [p], x, v, h, hl, hv, hx => by
    rw [chgV]
    split
    · exact nd_mp (nd_woN hv hl p) fun y hy => nd_ms hv y (wo_mem hy)
    · exact nd_mp (nd_withN hv p) fun y hy => by
        rcases with_mem hy with rfl | hy
        · exact hx
        · exact nd_ms hv y hy
  | p :: q :: r, x, v, h, hl, hv, hx => by
    rw [chgV]
    refine nd_mp (nd_withN hv p) fun y hy => ?_
    rcases with_mem hy with rfl | hy
    · exact nd_chg h.2.2 (lenV_get hl h.2.1) (nd_ms hv _ (get_mem hl h.2.1)) hx
    · exact nd_ms hv y hy
theorem nd_apl : ∀ (L : List (List (List UInt8) × V)) (v : V), Fit v L → lenV v → ndV v → (∀ m ∈ L, ndV m.2) → ndV (aplV v L)
  | [], _, _, _, h, _ => h
  | m :: L, v, h, hv, wv, wL => by
    obtain ⟨h1, h2⟩ := h.next hv
    refine nd_apl L (stpV v m) h1 h2 ?_ (fun n hn => wL n (by simp [hn]))
    unfold stpV; split
    · exact nd_chg h.head.1 hv wv (wL m (by simp))
    · exact wv

structure Eq7 (a b : V) : Prop where
  den : den a = den b
  nd : ndV a ∧ ndV b
  len : lenV a ∧ lenV b
theorem den_parts {a b : V} (h : den a = den b) : a.k = b.k ∧ a.n = b.n ∧ a.s = b.s ∧ denL a.l = denL b.l ∧ denM a.ms a.ns = denM b.ms b.ns := by
  obtain ⟨k, n, s, l, ns, ms⟩ := a
  obtain ⟨k', n', s', l', ns', ms'⟩ := b
  rw [den, den] at h
  injection h with h1 h2 h3 h4 h5
  exact ⟨h1, h2, h3, h4, h5⟩
theorem nodup_len : ∀ (l r : List (List UInt8)), l.Nodup → (∀ x ∈ l, x ∈ r) → l.length ≤ r.length
  | [], _, _, _ => Nat.zero_le _
  | a :: l, r, hn, h => by
    have ha := h a (by simp)
    rw [List.nodup_cons] at hn
    have h1 := nodup_len l (r.erase a) hn.2 fun x hx => by
      have : x ≠ a := fun e => hn.1 (e ▸ hx)
      exact (List.mem_erase_of_ne this).2 (h x (by simp [hx]))
    have h2 := List.length_erase_of_mem ha
    have h3 := List.length_pos_of_mem ha
    rw [List.length_cons]
    omega
theorem lenV_l {v : V} (hl : lenV v) : ∀ y ∈ v.l, lenV y := by
  intro y hy
  refine lenL_mem (l := v.l) ?_ hy
  cases v; rw [lenV] at hl; exact hl.2.1
theorem Eq7.lists {a b : V} (h : Eq7 a b) : a.l.length = b.l.length ∧ ∀ i (h1 : i < a.l.length) (h2 : i < b.l.length), Eq7 a.l[i] b.l[i] := by
  obtain ⟨-, -, -, e, -⟩ := den_parts h.den
  rw [denL_map, denL_map] at e
  have hlen : a.l.length = b.l.length := by have := congrArg List.length e; simpa using this
  refine ⟨hlen, fun i h1 h2 => ⟨?_, ⟨ndL_mem ((ndV_eq a).1 h.nd.1).2.1 (List.getElem_mem h1), ndL_mem ((ndV_eq b).1 h.nd.2).2.1 (List.getElem_mem h2)⟩, ⟨lenV_l h.len.1 _ (List.getElem_mem h1), lenV_l h.len.2 _ (List.getElem_mem h2)⟩⟩⟩
  have h3 : (a.l.map Pa.den)[i]'(by rw [List.length_map]; exact h1) = (b.l.map Pa.den)[i]'(by rw [List.length_map]; exact h2) := by simp only [e]
  simpa using h3
theorem Eq7.in_ {a b : V} (h : Eq7 a b) {o : List UInt8} (ho : o ∈ a.ns) : o ∈ b.ns := by
  obtain ⟨-, -, -, -, e⟩ := den_parts h.den
  have e2 := congrFun e o
  rw [denM_get _ _ _ (ns_len h.len.1), denM_get _ _ _ (ns_len h.len.2), if_pos ho] at e2
  by_cases hb : o ∈ b.ns
  · exact hb
  · rw [if_neg hb] at e2; cases e2
theorem Eq7.symm {a b : V} (h : Eq7 a b) : Eq7 b a := ⟨h.den.symm, ⟨h.nd.2, h.nd.1⟩, ⟨h.len.2, h.len.1⟩⟩
theorem Eq7.names {a b : V} (h : Eq7 a b) : a.ns.length = b.ns.length := by
  have h1 := nodup_len a.ns b.ns ((ndV_eq a).1 h.nd.1).1 fun x hx => h.in_ hx
  have h2 := nodup_len b.ns a.ns ((ndV_eq b).1 h.nd.2).1 fun x hx => h.symm.in_ hx
  omega
theorem Eq7.mems {a b : V} (h : Eq7 a b) : a.ms.length = b.ms.length := by rw [← ns_len h.len.1, ← ns_len h.len.2]; exact h.names
theorem Eq7.at_ {a b : V} (h : Eq7 a b) {i : Nat} (h1 : i < a.ms.length) (h0 : i < a.ns.length) : ∃ h2 : b.ns.idxOf a.ns[i] < b.ms.length, a.ns[i] ∈ b.ns ∧ Eq7 a.ms[i] b.ms[b.ns.idxOf a.ns[i]] := by
  have hin := h.in_ (List.getElem_mem h0)
  have h2 : b.ns.idxOf a.ns[i] < b.ms.length := by rw [← ns_len h.len.2]; exact List.idxOf_lt_length_of_mem hin
  refine ⟨h2, hin, ⟨?_, ⟨nd_ms h.nd.1 _ (List.getElem_mem h1), nd_ms h.nd.2 _ (List.getElem_mem h2)⟩, ⟨lenV_ms h.len.1 _ (List.getElem_mem h1), lenV_ms h.len.2 _ (List.getElem_mem h2)⟩⟩⟩
  obtain ⟨-, -, -, -, e⟩ := den_parts h.den
  have e2 := congrFun e a.ns[i]
  rw [denM_get _ _ _ (ns_len h.len.1), denM_get _ _ _ (ns_len h.len.2), if_pos (List.getElem_mem h0), if_pos hin, idxOf_nodup ((ndV_eq a).1 h.nd.1).1 h0, List.getElem?_eq_getElem h1, List.getElem?_eq_getElem h2] at e2
  injection e2
end Go.Proofs.Ytbfogkcnfnjcaaa.Pa
namespace Go.Proofs.Ytbfogkcnfnjcaaa.Pa
open Go.Proofs
open Go.Proofs.Ytbfogkcnfnjcaaa.Utf
open Go.Proofs.Ytbfogkcnfnjcaaa.Sc
open Go.Proofs.Ytbfogkcnfnjcaaa.Re
open Go.Proofs.Ytbfogkcnfnjcaaa.Tr
open Go.Proofs.Ytbfogkcnfnjcaaa.Po
open Go.Proofs.Ytbfogkcnfnjcaaa.Em
set_option linter.unusedSimpArgs false
def nulV : V := .mk 1 0 [] [] [] []
def awV : V := mpV ([[97], [99]], [mpV ([[98]], [nmV 1]), nmV 2])
def awP : V := mpV ([[97, 47, 98], [99], [100]], [nulV, nmV 3, nmV 4])
def awQ : V := mpV ([[97], [97, 47, 98]], [nmV 1, nmV 2])
def awW : V := mpV ([[97], [99], [100]], [mpV ([], []), nmV 3, nmV 4])
theorem aw9_s1 : scnS [123, 34, 97, 34, 58, 123, 34, 98, 34, 58, 49, 125, 44, 34, 99, 34, 58, 50, 125] =
  ([(1, 0, [123], 0), (4, 0, [97], 1), (1, 0, [58], 4), (1, 0, [123], 5), (4, 0, [98], 6), (1, 0, [58], 9), (3, 1, [], 10), (1, 0, [125], 11), (1, 0, [44], 12), (4, 0, [99], 13), (1, 0, [58], 16), (3, 2, [], 17), (1, 0, [125], 18)], 0, 0) := by decide +kernel
theorem aw9_1 : rdV [123, 34, 97, 34, 58, 123, 34, 98, 34, 58, 49, 125, 44, 34, 99, 34, 58, 50, 125] = (awV, 0, 0) :=
  rdV_of aw9_s1 (by simp [rdT, fuelOf, pV, pL, pM, tk, isM, badV, Rs.map, txV, nmV, wdV, lsV, mpV, wNull, wTrue, V0, awV, nulV])
theorem aw9_s2 : scnS [123, 34, 97, 47, 98, 34, 58, 110, 117, 108, 108, 44, 34, 99, 34, 58, 51, 44, 34, 100, 34, 58, 52, 125] =
  ([(1, 0, [123], 0), (4, 0, [97, 47, 98], 1), (1, 0, [58], 6), (2, 0, [110, 117, 108, 108], 7), (1, 0, [44], 11), (4, 0, [99], 12), (1, 0, [58], 15), (3, 3, [], 16), (1, 0, [44], 17), (4, 0, [100], 18), (1, 0, [58], 21), (3, 4, [], 22), (1, 0, [125], 23)], 0, 0) := by decide +kernel
theorem aw9_2 : rdV [123, 34, 97, 47, 98, 34, 58, 110, 117, 108, 108, 44, 34, 99, 34, 58, 51, 44, 34, 100, 34, 58, 52, 125] = (awP, 0, 0) :=
  rdV_of aw9_s2 (by simp [rdT, fuelOf, pV, pL, pM, tk, isM, badV, Rs.map, txV, nmV, wdV, lsV, mpV, wNull, wTrue, V0, awP, nulV])
theorem aw9_s3 : scnS [123, 34, 97, 34, 58, 49, 44, 34, 97, 47, 98, 34, 58, 50, 125] =
  ([(1, 0, [123], 0), (4, 0, [97], 1), (1, 0, [58], 4), (3, 1, [], 5), (1, 0, [44], 6), (4, 0, [97, 47, 98], 7), (1, 0, [58], 12), (3, 2, [], 13), (1, 0, [125], 14)], 0, 0) := by decide +kernel
theorem aw9_3 : rdV [123, 34, 97, 34, 58, 49, 44, 34, 97, 47, 98, 34, 58, 50, 125] = (awQ, 0, 0) :=
  rdV_of aw9_s3 (by simp [rdT, fuelOf, pV, pL, pM, tk, isM, badV, Rs.map, txV, nmV, wdV, lsV, mpV, wNull, wTrue, V0, awQ, nulV])
theorem aw9_p1 : prts [47, 97, 47, 98] = some [[97], [98]] := by decide +kernel
theorem aw9_p2 : prts [47, 99] = some [[99]] := by decide +kernel
theorem aw9_p3 : prts [47, 100] = some [[100]] := by decide +kernel
theorem aw9_fit : fitP awV awP := by
  refine ⟨rfl, rfl, by decide, fun nm hn => ?_, ?_⟩
  · have h : nm = [97, 47, 98] ∨ nm = [99] ∨ nm = [100] := by simpa [awP, mpV, V.ns] using hn
    rcases h with rfl | rfl | rfl
    · exact ⟨_, aw9_p1, rfl, by decide, rfl⟩
    · exact ⟨_, aw9_p2, rfl⟩
    · exact ⟨_, aw9_p3, rfl⟩
  · show List.Pairwise (fun b a : List UInt8 => bgB a b = false ∧ bgB b a = false) [[97, 47, 98], [99], [100]]
    decide +kernel
theorem aw9_not : ¬ fitP awV awQ := by
  rintro ⟨-, -, -, -, h⟩
  have h2 : List.Pairwise (fun b a : List UInt8 => bgB a b = false ∧ bgB b a = false) [[97], [97, 47, 98]] := h
  revert h2
  decide +kernel
theorem aw9_w0 : aplV awV [([[97], [98]], nulV), ([[99]], nmV 3), ([[100]], nmV 4)] = awW := by kernel_rfl
theorem aw9_w : aplV awV (lst awP) = awW := by
  have e : lst awP = [([[97], [98]], nulV), ([[99]], nmV 3), ([[100]], nmV 4)] := by
    unfold lst awP mpV
    simp only [V.ns, V.ms, List.zip_cons_cons, List.zip_nil_left, List.map_cons, List.map_nil]
    rw [pth_of aw9_p1, pth_of aw9_p2, pth_of aw9_p3]
  rw [e]
  exact aw9_w0
theorem aw9_c : chk awW = 0 := by decide +kernel
theorem aw9_t : txtR awW = [123, 34, 97, 34, 58, 123, 125, 44, 34, 99, 34, 58, 51, 44, 34, 100, 34, 58, 52, 125] := by
  unfold txtR
  rw [if_pos aw9_c]
  decide +kernel
theorem aw9_wf (v : V) (h : v = awV ∨ v = awP ∨ v = awQ ∨ v = awW) : wfV v ∧ szU v ≤ 1000 ∧ lenV v := by
  rcases h with rfl | rfl | rfl | rfl
  · refine ⟨?_, ?_, ?_⟩
    · simp [awV, mpV, nmV, wfV, wfL]; decide
    · simp [awV, mpV, nmV, szU, szUL]
    · simp [awV, mpV, nmV, lenV, lenL]
  · refine ⟨?_, ?_, ?_⟩
    · simp [awP, nulV, mpV, nmV, wfV, wfL]; decide
    · simp [awP, nulV, mpV, nmV, szU, szUL]
    · simp [awP, nulV, mpV, nmV, lenV, lenL]
  · refine ⟨?_, ?_, ?_⟩
    · simp [awQ, mpV, nmV, wfV, wfL]; decide
    · simp [awQ, mpV, nmV, szU, szUL]
    · simp [awQ, mpV, nmV, lenV, lenL]
  · refine ⟨?_, ?_, ?_⟩
    · simp [awW, mpV, nmV, wfV, wfL]; decide
    · simp [awW, mpV, nmV, szU, szUL]
    · simp [awW, mpV, nmV, lenV, lenL]
end Go.Proofs.Ytbfogkcnfnjcaaa.Pa
namespace Go.Proofs.Ytbfogkcnfnjcaaa.Pa
open Go.Proofs Go.RowKit Go.Lib
open Go.Proofs.Ytbfogkcnfnjcaaa.Utf
open Go.Proofs.Ytbfogkcnfnjcaaa.Sc
open Go.Proofs.Ytbfogkcnfnjcaaa.Re
open Go.Proofs.Ytbfogkcnfnjcaaa.Tr
open Go.Proofs.Ytbfogkcnfnjcaaa.Po
open Go.Proofs.Ytbfogkcnfnjcaaa.Em (lenV lenL szU szUL)

def GivesF (v : V) (F : List Nat) (w : World) (e : Ending) (w' : World) : Prop :=
  (∃ (cs : List Value) (F' : List Nat), e = .returned (.agg cs.toArray) ∧ RdF w' v cs F' ∧ F'.Nodup ∧ (∀ k ∈ F', k ∈ F ∨ w.heap.size ≤ k) ∧ ∀ k ∈ F', k < w'.heap.size) ∧ Below w.heap.size w w'
theorem lenF {w : World} {v : V} {cs : List Value} {F : List Nat} (h : RdF w v cs F) (hF : ∀ k ∈ F, k < w.heap.size) : lenV v := Em.len_of_RdA v cs (RdF.toA (lo := 0) (hi := w.heap.size) v cs F (fun k hk => ⟨Nat.zero_le _, hF k hk⟩) h)
theorem ms_szU (v : V) : v.ms.length ≤ szU v := by
  have h : ∀ l : List V, l.length ≤ szUL l := fun l => by
    induction l with
    | nil => simp
    | cons a r ih => have : 1 ≤ szU a := by rw [szU_eq']; omega
                     rw [szUL, List.length_cons]; omega
  rw [szU_eq']
  have := h v.ms
  omega
theorem get_szU {v : V} (hl : lenV v) {p : List UInt8} (h : p ∈ inN v) : szU (getV v p) ≤ szU v := by
  have := szUL_mem (get_mem hl h)
  rw [szU_eq' v]
  omega
theorem tail_of {w : World} {y : V} {cs : List Value} {F : List Nat} (h : RdF w y cs F) (p : List UInt8) : ∃ x : M6, x.nm = p ∧ cs = m6tail x := by
  obtain ⟨A, c, A2, c2, FL, FM, rfl, -⟩ := h.cells
  exact ⟨⟨p, y.k, y.n, strOf y.s, A, y.l.length, c, A2, y.ms.length, c2⟩, rfl, rfl⟩
theorem with_end {w wc w' : World} {v y : V} {T : List M3} {F FM : List Nat} {x : M6} {Fy : List Nat} {p : List UInt8} {A : Option Addr} {e : Ending} (hk : v.k = 6) (h1 : tN T = v.ns) (h2 : tV T = v.ms) (hm : MapT wc A T FM) (hsub : ∀ k ∈ FM, k ∈ F) (hn : FM.Nodup) (hlt : ∀ k ∈ F, k < w.heap.size) (hxp : x.nm = p) (hy : RdF wc y (m6tail x) Fy) (hyn : Fy.Nodup)
    (hys : ∀ k ∈ Fy, (∃ h : (tN T).idxOf p < T.length, k ∈ (T[(tN T).idxOf p]).2.2) ∨ w.heap.size ≤ k) (hyl : ∀ k ∈ Fy, k < wc.heap.size) (hwc : w.heap.size ≤ wc.heap.size) (hres : GivesD (withD (tD T) x) wc e w') :
    ∃ (cs : List Value) (F' : List Nat), e = .returned (.agg cs.toArray) ∧ RdF w' (mpV (withN v p, withM v p y)) cs F' ∧ F'.Nodup ∧ (∀ k ∈ F', k ∈ F ∨ (w.heap.size ≤ k ∧ k ∈ Fy) ∨ wc.heap.size ≤ k) ∧ ∀ k ∈ F', k < w'.heap.size := by
  subst hxp
  rw [← withT_D T (x, y, Fy)] at hres
  have hTn := hm.nod hn
  have hTl : ∀ k ∈ tF T, k < w.heap.size := fun k hk => hlt k (hsub k (hm.sub hk))
  obtain ⟨q1, q2⟩ := withT_F (N := w.heap.size) (x := (x, y, Fy)) hTn hyn hys hTl
  obtain ⟨cs, F', r1, r2, r3, r4, r5⟩ := rdF_of hres (fun t ht => by
    rcases withT_mem ht with rfl | ht
    · exact hy
    · exact hm.rd t ht) q1 (fun k hk => by
      obtain ⟨t, ht, hk2⟩ := tF_of hk
      rcases withT_mem ht with rfl | ht
      · exact hyl k hk2
      · have := hTl k (tF_mem ht hk2); omega)
  rw [withT_N hk h1, withT_V hk h1 h2] at r2
  refine ⟨cs, F', r1, r2, r3, fun k hk => ?_, r5⟩
  rcases r4 k hk with h | h
  · obtain ⟨t, ht, hk2⟩ := tF_of h
    rcases withT_mem ht with rfl | ht
    · rcases hys k hk2 with ⟨hi, h3⟩ | h3
      · exact .inl (hsub k (hm.sub (tF_mem (List.getElem_mem hi) h3)))
      · exact .inr (.inl ⟨h3, hk2⟩)
    · exact .inl (hsub k (hm.sub (tF_mem ht hk2)))
  · exact .inr (.inr h)
theorem wo_end {w wc w' : World} {v : V} {T : List M3} {F FM : List Nat} {p : List UInt8} {A : Option Addr} {e : Ending} (hk : v.k = 6) (h1 : tN T = v.ns) (h2 : tV T = v.ms) (hm : MapT wc A T FM) (hsub : ∀ k ∈ FM, k ∈ F) (hn : FM.Nodup) (hlt : ∀ k ∈ F, k < w.heap.size) (hwc : w.heap.size ≤ wc.heap.size) (hres : GivesD (woD (tD T) p) wc e w') :
    ∃ (cs : List Value) (F' : List Nat), e = .returned (.agg cs.toArray) ∧ RdF w' (mpV (woN v p, woM v p)) cs F' ∧ F'.Nodup ∧ (∀ k ∈ F', k ∈ F ∨ wc.heap.size ≤ k) ∧ ∀ k ∈ F', k < w'.heap.size := by
  rw [← woT_D T p] at hres
  obtain ⟨q1, q2⟩ := woT_F p (hm.nod hn)
  obtain ⟨cs, F', r1, r2, r3, r4, r5⟩ := rdF_of hres (fun t ht => hm.rd t (List.mem_filter.1 ht).1) q1 (fun k hk => Nat.lt_of_lt_of_le (hlt k (hsub k (hm.sub (q2 k hk)))) hwc)
  obtain ⟨n1, n2⟩ := woT_NV hk p h1 h2
  rw [n1, n2] at r2
  refine ⟨cs, F', r1, r2, r3, fun k hk => ?_, r5⟩
  rcases r4 k hk with h | h
  · exact .inl (hsub k (hm.sub (q2 k h)))
  · exact .inr h
theorem MapT.keep {w w' : World} {A : Option Addr} {T : List M3} {FM : List Nat} (h : MapT w A T FM) (hk : ∀ k ∈ FM, w'.heap[k]? = w.heap[k]?) : MapT w' A T FM where
  at_ := fun h0 => by
    obtain ⟨g, e, e2, hc⟩ := h.at_ h0
    exact ⟨g, e, e2, fun j hj => (hc j hj).keep (hk g (by rw [e2]; simp))⟩
  none_ := h.none_
  rd := fun t ht => RdF.keep _ _ _ (fun k hk2 => hk k (h.sub (tF_mem ht hk2))) (h.rd t ht)
theorem gives_end {w wz : World} {v' : V} {F F' : List Nat} {b : Nat} {c0 c1 c2 c3 c4 : Value} (hr : RdF wz v' [c0, c1, c2, c3, c4] F') (hn : F'.Nodup) (hs : ∀ k ∈ F', (k ∈ F ∨ w.heap.size ≤ k) ∧ k ≠ b) (hl : ∀ k ∈ F', k < wz.heap.size) (hb : Below w.heap.size w wz) (hwb : w.heap.size ≤ b) (v0 v1 v2 v3 v4 : Value) (e0 : v0 = c0) (e1 : v1 = c1) (e2 : v2 = c2) (e3 : v3 = c3) (e4 : v4 = c4) :
    GivesF v' F w (.returned (.agg #[c0, c1, c2, c3, c4])) (st5 wz b v0 v1 v2 v3 v4) := by
  subst e0 e1 e2 e3 e4
  refine ⟨⟨[v0, v1, v2, v3, v4], F', rfl, RdF.keep _ _ _ (fun k hk => st5_other (hs k hk).2 _ _ _ _ _) hr, hn, fun k hk => (hs k hk).1, fun k hk => ?_⟩, st5_below hb hwb _ _ _ _ _⟩
  exact Nat.lt_of_lt_of_eq (hl k hk) (st5_size (w := wz) (b := b) _ _ _ _ _).symm

set_option maxRecDepth 100000 in
set_option maxHeartbeats 1000000 in
theorem change_any : ∀ (ps : List (List UInt8)) (v x : V) (cv cx : List Value) (F : List Nat) (pv : Value) (w : World), RdF w v cv F → F.Nodup → (∀ k ∈ F, k < w.heap.size) → RdA w 0 w.heap.size x cx → szA 140737488355328 x → RdS w w.heap.size pv ps → okP ps v → szU v ≤ 100000000 →
    Calls Try.prog 23 #[.agg cv.toArray, pv, .agg cx.toArray] w (GivesF (chgV ps x v) F w) := by
  intro ps
  induction ps with
  | nil => intro v x cv cx F pv w _ _ _ _ _ _ h; exact h.elim
  | cons p r ih =>
    intro v x cv cx F pv w hv hn hlt hx zx hpv hok hsz
    have hlen := lenF hv hlt
    have hk6 := okP_k hok
    obtain ⟨A0, c0, A20, c20, FL, FM, T, rfl, hF, hTN, hTV, hMT⟩ := mapT_of hv
    have hnM : FM.Nodup := by rw [hF, List.nodup_append] at hn; exact hn.2.1
    have hsub : ∀ k ∈ FM, k ∈ F := fun k hk => by rw [hF]; exact List.mem_append_right _ hk
    have HMT := Lib.hid hMT
    have HSUB := Lib.hid hsub
    have HNM := Lib.hid hnM
    have HLT := Lib.hid hlt
    have HTN := Lib.hid hTN
    have HTV := Lib.hid hTV
    have HK6 := Lib.hid hk6
    have HLEN := Lib.hid hlen
    have HCPY := Lib.hid (fun (W : World) (hW : Below w.heap.size w W) => Copy_any (ht x) x (Nat.le_refl _) zx cx W (hx.below hW (Nat.le_refl _) hW.size))
    have hdl : (tD T).length = v.ms.length := by rw [tD_len, ← tV_len, hTV]
    have hml : v.ms.length < 1466015503701 := by have := ms_szU v; omega
    obtain ⟨B0, e0, B20, e20, rfl, -⟩ := hx.cells
    have HX := Lib.hid hx
    obtain ⟨Ap, cp, rfl, hcap, hpc⟩ := hpv
    have HPV := Lib.hid (show RdS w w.heap.size (.slice Ap (p :: r).length cp) (p :: r) from ⟨Ap, cp, rfl, hcap, hpc⟩)
    obtain ⟨ad, rfl, hadb, hpx⟩ := hpc (by simp)
    have hap := hpx 0 _ (strC_at (p :: r) 0 (by simp))
    rw [add_zero_] at hap
    rw [show (p :: r)[0] = p from rfl] at hap
    obtain ⟨X, hX⟩ : ∃ X, strOf p = X := ⟨_, rfl⟩
    have HXX := Lib.hid hX
    rw [hX] at hap
    have HADB := Lib.hid hadb
    have HAP := Lib.hid hap
    obtain ⟨nn, hnn⟩ : ∃ nn, (p :: r).length = nn := ⟨_, rfl⟩
    have HNN := Lib.hid hnn
    obtain ⟨len, hln⟩ : ∃ len, v.ms.length = len := ⟨_, rfl⟩
    have HLN := Lib.hid (show (tD T).length = len from hdl.trans hln)
    rw [hnn] at HPV ⊢
    rw [hk6, hln]
    rw [hln] at hml
    have HML := Lib.hid hml
    obtain ⟨xk, hxk⟩ : ∃ x', x.k = x' := ⟨_, rfl⟩
    have HXK := Lib.hid hxk
    rw [hxk] at HCPY HX ⊢
    have hn1 : 0 < nn := by rw [← hnn]; simp
    have b1 : (0 : Int) < (nn : Int) := by omega
    have HOK := Lib.hid hok
    have HSZ := Lib.hid hsz
    have HIH := Lib.hid ih
    have HZX := Lib.hid zx
    clear hv hn hlt hx zx hok hsz hlen hk6 hF hTN hTV hMT hnM hsub hdl hml hcap hpc hadb hpx hap hX hnn hln hxk ih
    generalize v.n = vn at *
    generalize strOf v.s = VS at *
    generalize v.l.length = vl at *
    generalize x.n = xn at *
    generalize strOf x.s = XS at *
    generalize x.l.length = xl at *
    generalize x.ms.length = xm at *
    obtain ⟨W0, hW0⟩ : ∃ W0, W0 = (((w.alloc (.cells #[.int .i64 6, .int .i64 vn, .string VS, .slice A0 vl c0, .slice A20 len c20] 25)).alloc (.cells #[.int .i64 xk, .int .i64 xn, .string XS, .slice B0 xl e0, .slice B20 xm e20] 25)).alloc (.cells #[.int .i64 0, .int .i64 0, .string ⟨#[]⟩, .slice none 0 0, .slice none 0 0] 25)) := ⟨_, rfl⟩
    have HB0 := Lib.hid (show Below w.heap.size w W0 by rw [hW0]; exact (((Below.refl _ _).alloc (Nat.le_refl _) _).alloc (by simp) _).alloc (by simp; omega) _)
    have HS0 := Lib.hid (show W0.heap.size = w.heap.size + 3 by rw [hW0]; exact szAl3 _ _ _ _)
    have hv0 : W0.heap[w.heap.size]? = some (.cells #[.int .i64 6, .int .i64 vn, .string VS, .slice A0 vl c0, .slice A20 len c20] 25 (0, 0)) := by rw [hW0]; exact heapOld (heapOld (heapNew _ _) _) _
    have hx0 : W0.heap[w.heap.size + 1]? = some (.cells #[.int .i64 xk, .int .i64 xn, .string XS, .slice B0 xl e0, .slice B20 xm e20] 25 (0, 0)) := by
      rw [hW0]; refine heapOld ?_ _
      rw [show w.heap.size + 1 = (w.alloc (.cells #[.int .i64 6, .int .i64 vn, .string VS, .slice A0 vl c0, .slice A20 len c20] 25)).heap.size by simp]; exact heapNew _ _
    have hr0 : W0.heap[w.heap.size + 1 + 1]? = some (.cells #[.int .i64 0, .int .i64 0, .string ⟨#[]⟩, .slice none 0 0, .slice none 0 0] 25 (0, 0)) := by
      rw [hW0, show w.heap.size + 1 + 1 = ((w.alloc (.cells #[.int .i64 6, .int .i64 vn, .string VS, .slice A0 vl c0, .slice A20 len c20] 25)).alloc (.cells #[.int .i64 xk, .int .i64 xn, .string XS, .slice B0 xl e0, .slice B20 xm e20] 25)).heap.size by simp]; exact heapNew _ _
    have HV0 := Lib.hid hv0
    have HX0 := Lib.hid hx0
    have HR0 := Lib.hid hr0
    have HW0 := Lib.hid hW0
    have hap0 : W0.cell? ad = some (.string X) := (HB0.out.cell HADB.out).trans HAP.out
    rw [hW0] at hv0 hx0 hr0 hap0
    obtain ⟨⟨p0, p1, p2, p3, p4⟩, -⟩ := row5 hv0
    obtain ⟨⟨s0, s1, s2, s3, s4⟩, -⟩ := row5 hx0
    clear hW0 hv0 hx0 hr0
    cases r with
    | nil =>
      obtain rfl : nn = 1 := HNN.out.symm
      by_cases hxk1 : xk = 1
      · have HWO := Lib.hid (fun (W : World) (hW : Below w.heap.size w W) => Without_raw (tD T) vn VS A0 vl c0 A20 c20 p W ((HMT.out.raw (fun k hk => HLT.out k (HSUB.out k hk))).keep (fun q hq => hW.cell hq) |>.more hW.size) (by rw [HLN.out]; exact HML.out))
        rw [HLN.out, HXX.out] at HWO
        have HCH := Lib.hid (show chgV [p] x v = mpV (woN v p, woM v p) by rw [chgV, if_pos (HXK.out.trans hxk1)])
        subst hxk1
        go_enter Try.func23, Try.ntmps23
        go_wp2_with fail
        rw [← HW0.out]
        refine (HWO.out _ HB0.out).mono ?_
        rintro e wz hres
        have hMTc := HMT.out.keep (w' := W0) (fun k hk => HB0.out.block k (HLT.out k (HSUB.out k hk)))
        obtain ⟨cs, F', rfl, k2, k3, k4, k5⟩ := wo_end HK6.out HTN.out HTV.out hMTc HSUB.out HNM.out HLT.out HB0.out.size hres
        have hbz := hres.2
        have HRZ := Lib.hid ((hbz.block (w.heap.size + 1 + 1) (by rw [HS0.out]; omega)).trans HR0.out)
        have HBZ := Lib.hid (HB0.out.trans (hbz.mono HB0.out.size))
        obtain ⟨zA, zc, zB, zd, FLz, FMz, rfl, -⟩ := k2.cells
        have HRDZ := Lib.hid (And.intro k2 (And.intro k3 (And.intro k4 k5)))
        obtain ⟨⟨z0, z1, z2, z3, z4⟩, ⟨y0, y1, y2, y3, y4⟩⟩ := row5 HRZ.out
        clear k2 k3 k4 k5 hres hMTc hbz
        generalize (mpV (woN v p, woM v p)).k = zk at *
        generalize (mpV (woN v p, woM v p)).n = zn at *
        generalize strOf (mpV (woN v p, woM v p)).s = zs at *
        generalize (mpV (woN v p, woM v p)).l.length = zl at *
        generalize (mpV (woN v p, woM v p)).ms.length = zm at *
        go_wp2
        refine bodyPost_ret (res5 rfl rfl (st5_row HRZ.out _ _ _ _ _)) rfl ?_
        rw [HCH.out]
        obtain ⟨k2, k3, k4, k5⟩ := HRDZ.out
        exact gives_end k2 k3 (fun k hk => by
          rcases k4 k hk with h | h
          · exact ⟨.inl h, by have := HLT.out k h; omega⟩
          · rw [HS0.out] at h; exact ⟨.inr (by omega), by omega⟩) k5 HBZ.out (by omega) _ _ _ _ _ rfl rfl rfl rfl rfl
      · have t1 : (xk == 1) = false := beq_eq_false_iff_ne.2 hxk1
        have HCH := Lib.hid (show chgV [p] x v = mpV (withN v p, withM v p x) by rw [chgV, if_neg (by rw [HXK.out]; exact hxk1)])
        clear hxk1
        go_enter Try.func23, Try.ntmps23
        go_wp2_with fail
        rw [← HW0.out]
        refine wp_region_held_drew (S := fun W' => W'.heap[w.heap.size]? = some (.cells #[.int .i64 6, .int .i64 vn, .string VS, .slice A0 vl c0, .slice A20 len c20] 25 (0, 0)) ∧ W'.heap[w.heap.size + 1]? = some (.cells #[.int .i64 xk, .int .i64 xn, .string XS, .slice B0 xl e0, .slice B20 xm e20] 25 (0, 0))) (by kernel_rfl) (⟨HV0.out, HX0.out⟩) (fun hHeld => ?_)
        refine wpAnyH_take (i := 0) (oi := { dst := some 38, op := Op.load 25 (Operand.tmp 3), type := 25, pos := "patch.go:98", after := #[], guard := none }) (v := ?_) rfl (by kernel_rfl) (by kernel_rfl) (by kernel_rfl) (fun _ _ _ h => h) (Or.inl ⟨by rfl, ?_⟩) hHeld ?_
        rotate_left
        · intro w hSw; (try dsimp only at hSw); obtain ⟨⟨p0, p1, p2, p3, p4⟩, -⟩ := row5 hSw.1; go_simp; with_reducible rfl
        try simp only [Act.put, List.setIfInBounds_toArray, List.set_cons_zero, List.set_cons_succ]
        refine wpAnyH_take (i := 1) (oi := { dst := some 39, op := Op.move (Operand.tmp 7), type := 9, pos := "patch.go:98", after := #[], guard := none }) (v := ?_) rfl (by kernel_rfl) (by kernel_rfl) (by kernel_rfl) (fun _ _ _ h => h) (Or.inl ⟨by rfl, ?_⟩) hHeld ?_
        rotate_left
        · intro w hSw; (try dsimp only at hSw); go_simp; with_reducible rfl
        try simp only [Act.put, List.setIfInBounds_toArray, List.set_cons_zero, List.set_cons_succ]
        refine wpAnyH_take (i := 2) (oi := { dst := some 40, op := Op.load 25 (Operand.tmp 5), type := 25, pos := "patch.go:98", after := #[], guard := none }) (v := ?_) rfl (by kernel_rfl) (by kernel_rfl) (by kernel_rfl) (fun _ _ _ h => h) (Or.inl ⟨by rfl, ?_⟩) hHeld ?_
        rotate_left
        · intro w hSw; (try dsimp only at hSw); obtain ⟨⟨p0, p1, p2, p3, p4⟩, -⟩ := row5 hSw.2; go_simp; with_reducible rfl
        try simp only [Act.put, List.setIfInBounds_toArray, List.set_cons_zero, List.set_cons_succ]
        refine wpAnyH_ready (rs := [3]) (by kernel_rfl) (by simp) ?_
        refine AllReadyH.cons (o := { dst := some 41, op := Op.call { callee := Callee.value (Operand.func 14), args := #[Operand.tmp 40], argTypes := #[25] }, type := 25, pos := "patch.go:98", after := #[{ on := 2, ground := Ground.data }], guard := none }) rfl (fun K hK => ?_) AllReadyH.nil
        go_simp
        go_at_call 14
        refine (HCPY.out _ HB0.out.drew).mono ?_
        rintro e w1 ⟨⟨cy, Fy, rfl, hcy, hny, hFy⟩, hb1⟩
        have HB1 := Lib.hid (show Below W0.heap.size W0 w1 from (Below.drew (Below.refl W0.heap.size W0)).trans hb1)
        obtain ⟨m6, hm6, rfl⟩ := tail_of hcy p
        have HCY := Lib.hid hcy
        have HNY := Lib.hid hny
        have HFY := Lib.hid (show ∀ k ∈ Fy, w.heap.size + 3 ≤ k ∧ k < w1.heap.size from fun k hk => by have := hFy k hk; rw [← HS0.out]; exact this)
        have HM6 := Lib.hid hm6
        have HWR := Lib.hid (fun (W : World) (hW : Below w.heap.size w W) => With_raw (tD T) vn VS A0 vl c0 A20 c20 m6 W ((HMT.out.raw (fun k hk => HLT.out k (HSUB.out k hk))).keep (fun q hq => hW.cell hq) |>.more hW.size) (by rw [HLN.out]; exact HML.out))
        rw [HLN.out, HM6.out, HXX.out] at HWR
        have HV1 := Lib.hid (show w1.heap[w.heap.size]? = some (.cells #[.int .i64 6, .int .i64 vn, .string VS, .slice A0 vl c0, .slice A20 len c20] 25 (0, 0)) ∧ w1.heap[w.heap.size + 1]? = some (.cells #[.int .i64 xk, .int .i64 xn, .string XS, .slice B0 xl e0, .slice B20 xm e20] 25 (0, 0)) from ⟨(HB1.out.block w.heap.size (by rw [HS0.out]; omega)).trans HV0.out, (HB1.out.block (w.heap.size + 1) (by rw [HS0.out]; omega)).trans HX0.out⟩)
        clear hcy hny hFy hm6 hb1
        obtain ⟨mnm, yk, yn, YS, yA, yl, yc, yB, ym, yd⟩ := m6
        simp only [m6tail] at HWR ⊢
        refine hK.out _ _ (HV1.out) (fun hHeld => ?_)
        clear hK K
        try simp only [Act.put, List.setIfInBounds_toArray, List.set_cons_zero, List.set_cons_succ]
        refine wpAnyH_ready (rs := [4]) (by kernel_rfl) (by simp) ?_
        refine AllReadyH.cons (o := { dst := some 42, op := Op.call { callee := Callee.value (Operand.func 38), args := #[Operand.tmp 38, Operand.tmp 39, Operand.tmp 41], argTypes := #[25, 9, 25] }, type := 25, pos := "patch.go:98", after := #[{ on := 0, ground := Ground.data }, { on := 1, ground := Ground.data }, { on := 3, ground := Ground.data }, { on := 3, ground := Ground.chain }], guard := none }) rfl (fun K hK => ?_) AllReadyH.nil
        go_simp
        go_at_call 38
        refine (HWR.out _ (HB0.out.trans (HB1.out.mono HB0.out.size))).mono ?_
        rintro e wz hres
        have hbc : Below w.heap.size w w1 := HB0.out.trans (HB1.out.mono HB0.out.size)
        have hMTc := HMT.out.keep (w' := w1) (fun k hk => hbc.block k (HLT.out k (HSUB.out k hk)))
        obtain ⟨cs, F', rfl, k2, k3, k4, k5⟩ := with_end (wc := w1) HK6.out HTN.out HTV.out hMTc HSUB.out HNM.out HLT.out HM6.out HCY.out HNY.out (fun k hk => .inr (by have := HFY.out k hk; omega)) (fun k hk => (HFY.out k hk).2) hbc.size hres
        have hbz := hres.2
        have HB1Z := Lib.hid (show Below w1.heap.size w1 wz from hbz)
        have HRZ := Lib.hid ((HB1Z.out.block (w.heap.size + 1 + 1) (by have := HB1.out.size; rw [HS0.out] at this; omega)).trans ((HB1.out.block (w.heap.size + 1 + 1) (by rw [HS0.out]; omega)).trans HR0.out))
        have HBZ := Lib.hid (hbc.trans (HB1Z.out.mono hbc.size))
        obtain ⟨zA, zc, zB, zd, FLz, FMz, rfl, -⟩ := k2.cells
        have HRDZ := Lib.hid (And.intro k2 (And.intro k3 (And.intro k4 k5)))
        have HSZ1 := Lib.hid (show w.heap.size + 3 ≤ w1.heap.size by have := HB1.out.size; rw [HS0.out] at this; exact this)
        clear k2 k3 k4 k5 hres hMTc hbz hbc
        generalize (mpV (withN v p, withM v p x)).k = zk at *
        generalize (mpV (withN v p, withM v p x)).n = zn at *
        generalize strOf (mpV (withN v p, withM v p x)).s = zs at *
        generalize (mpV (withN v p, withM v p x)).l.length = zl at *
        generalize (mpV (withN v p, withM v p x)).ms.length = zm at *
        have HVZ := Lib.hid (show wz.heap[w.heap.size]? = some (.cells #[.int .i64 6, .int .i64 vn, .string VS, .slice A0 vl c0, .slice A20 len c20] 25 (0, 0)) ∧ wz.heap[w.heap.size + 1]? = some (.cells #[.int .i64 xk, .int .i64 xn, .string XS, .slice B0 xl e0, .slice B20 xm e20] 25 (0, 0)) from ⟨(HB1Z.out.block w.heap.size (by have := HSZ1.out; omega)).trans HV1.out.1, (HB1Z.out.block (w.heap.size + 1) (by have := HSZ1.out; omega)).trans HV1.out.2⟩)
        refine hK.out _ _ (HVZ.out) (fun hHeld => ?_)
        clear hK K
        try simp only [Act.put, List.setIfInBounds_toArray, List.set_cons_zero, List.set_cons_succ]
        refine wpAnyH_ready (rs := [5]) (by kernel_rfl) (by simp) ?_
        refine AllReadyH.cons (o := { dst := none, op := Op.store 25 (Operand.tmp 6) (Operand.tmp 42), type := 0, pos := "patch.go:98", after := #[{ on := 4, ground := Ground.data }, { on := 4, ground := Ground.chain }, { on := 0, ground := Ground.phase }, { on := 1, ground := Ground.phase }, { on := 2, ground := Ground.phase }, { on := 3, ground := Ground.phase }, { on := 4, ground := Ground.phase }], guard := none }) rfl (fun K hK => ?_) AllReadyH.nil
        obtain ⟨⟨z0, z1, z2, z3, z4⟩, ⟨y0, y1, y2, y3, y4⟩⟩ := row5 HRZ.out
        go_simp
        clear z0 z1 z2 z3 z4 y0 y1 y2 y3 y4
        obtain ⟨W2, hW2⟩ : ∃ W2, W2 = (((((wz.setCell ⟨w.heap.size + 1 + 1, 0, none⟩ (.int .i64 zk)).setCell ⟨w.heap.size + 1 + 1, 1, none⟩ (.int .i64 zn)).setCell ⟨w.heap.size + 1 + 1, 2, none⟩ (.string zs)).setCell ⟨w.heap.size + 1 + 1, 3, none⟩ (.slice zA zl zc)).setCell ⟨w.heap.size + 1 + 1, 4, none⟩ (.slice zB zm zd)) := ⟨_, rfl⟩
        have HW2 := Lib.hid hW2
        have HR2 := Lib.hid (show W2.heap[w.heap.size + 1 + 1]? = some (.cells #[.int .i64 zk, .int .i64 zn, .string zs, .slice zA zl zc, .slice zB zm zd] 25 (0, 0)) by rw [hW2]; exact st5_row HRZ.out _ _ _ _ _)
        have HV2 := Lib.hid (show W2.heap[w.heap.size]? = some (.cells #[.int .i64 6, .int .i64 vn, .string VS, .slice A0 vl c0, .slice A20 len c20] 25 (0, 0)) ∧ W2.heap[w.heap.size + 1]? = some (.cells #[.int .i64 xk, .int .i64 xn, .string XS, .slice B0 xl e0, .slice B20 xm e20] 25 (0, 0)) by rw [hW2]; exact ⟨(st5_other (by omega) _ _ _ _ _).trans HVZ.out.1, (st5_other (by omega) _ _ _ _ _).trans HVZ.out.2⟩)
        rw [← hW2]
        clear hW2
        refine hK.out _ _ (HV2.out) (fun hHeld => ?_)
        clear hK K
        try simp only [Act.put, List.setIfInBounds_toArray, List.set_cons_zero, List.set_cons_succ]
        refine wpAnyH_done (by kernel_rfl) ?_ _
        clear hHeld
        go_wp2
        refine bodyPost_ret (res5 rfl rfl HR2.out) rfl ?_
        rw [HCH.out, HW2.out]
        obtain ⟨k2, k3, k4, k5⟩ := HRDZ.out
        exact gives_end k2 k3 (fun k hk => by
          rcases k4 k hk with h | ⟨_, h⟩ | h
          · exact ⟨.inl h, by have := HLT.out k h; omega⟩
          · have := HFY.out k h; exact ⟨.inr (by omega), by omega⟩
          · have := HSZ1.out; exact ⟨.inr (by omega), by omega⟩) k5 HBZ.out (by omega) _ _ _ _ _ rfl rfl rfl rfl rfl
    | cons q r =>
      obtain ⟨-, hp, ho⟩ := HOK.out
      have HOK2 := Lib.hid ho
      obtain ⟨hix, hgd, hgv, hin⟩ := getT HK6.out HTN.out HTV.out hp
      have HSZ2 := Lib.hid (Nat.le_trans (get_szU HLEN.out hp) HSZ.out)
      obtain ⟨Fi, hFi⟩ : ∃ Fi, (T[(tN T).idxOf p]).2.2 = Fi := ⟨_, rfl⟩
      obtain ⟨m, hm⟩ : ∃ m, (T[(tN T).idxOf p]).1 = m := ⟨_, rfl⟩
      have hmem : T[(tN T).idxOf p] ∈ T := List.getElem_mem hix
      have HRDI := Lib.hid (show RdF w (getV v p) (m6tail m) Fi by rw [hgv, ← hm, ← hFi]; exact HMT.out.rd _ hmem)
      have HFIN := Lib.hid (show ∀ k ∈ Fi, k < w.heap.size from fun k hk => HLT.out k (HSUB.out k (HMT.out.sub (tF_mem hmem (by rw [hFi]; exact hk)))))
      have HFID := Lib.hid (show Fi.Nodup by
        have h1 := HMT.out.nod HNM.out
        unfold tF at h1
        exact (List.pairwise_flatten.1 h1).1 _ (List.mem_map.2 ⟨_, hmem, hFi⟩))
      have HFIX := Lib.hid (show ∀ k ∈ Fi, ∃ h : (tN T).idxOf p < T.length, k ∈ (T[(tN T).idxOf p]).2.2 from fun k hk => ⟨hix, by rw [hFi]; exact hk⟩)
      rw [hm] at hgd
      have HGD := Lib.hid hgd
      have HIN := Lib.hid (decide_eq_true hin)
      have HGET := Lib.hid (fun (W : World) (hW : Below w.heap.size w W) => Get_raw (tD T) vn VS A0 vl c0 A20 c20 p W ((HMT.out.raw (fun k hk => HLT.out k (HSUB.out k hk))).keep (fun q hq => hW.cell hq) |>.more hW.size) (by rw [HLN.out]; have := HML.out; omega))
      rw [HLN.out, HXX.out, HGD.out, HIN.out] at HGET
      obtain ⟨pv', hcut, hpv'⟩ := (show RdS w w.heap.size (.slice (some ad) (p :: q :: r).length cp) (p :: q :: r) by rw [HNN.out]; exact HPV.out).cut
      rw [HNN.out] at hcut
      have HCT := Lib.hid hcut
      have HCHG := Lib.hid (fun (W : World) (hW : Below w.heap.size w W) => HIH.out (getV v p) x (m6tail m) _ Fi pv' W (RdF.keep _ _ _ (fun k hk => hW.block k (HFIN.out k hk)) HRDI.out) HFID.out (fun k hk => Nat.lt_of_lt_of_le (HFIN.out k hk) hW.size) (HX.out.below hW (Nat.le_refl _) hW.size) HZX.out (hpv'.below hW hW.size) HOK2.out HSZ2.out)
      have HCH := Lib.hid (show chgV (p :: q :: r) x v = mpV (withN v p, withM v p (chgV (q :: r) x (getV v p))) from rfl)
      have t1 : decide ((1 : Int) < (nn : Int)) = true := decide_eq_true (by have := HNN.out; simp at this; omega)
      clear ho hp hix hgd hgv hin hmem hFi hm hcut hpv'
      generalize chgV (q :: r) x (getV v p) = y' at *
      obtain ⟨mnm, mk, mn, MS, mA, ml, mc, mB, mm, md⟩ := m
      simp only [m6tail] at HGET HCHG
      go_enter Try.func23, Try.ntmps23
      go_wp2_with fail
      rw [← HW0.out]
      refine (HGET.out _ HB0.out).mono ?_
      rintro e w1 ⟨rfl, hb1⟩
      have HB1 := Lib.hid (show Below W0.heap.size W0 w1 from hb1)
      have HS1 := Lib.hid (show w.heap.size + 3 ≤ w1.heap.size by have := hb1.size; rw [HS0.out] at this; exact this)
      clear hb1
      have hn1 : (w1.alloc (.cells #[.int .i64 0, .int .i64 0, .string ⟨#[]⟩, .slice none 0 0, .slice none 0 0] 25)).heap[w1.heap.size]? = some (.cells #[.int .i64 0, .int .i64 0, .string ⟨#[]⟩, .slice none 0 0, .slice none 0 0] 25 (0, 0)) := heapNew _ _
      obtain ⟨⟨z0, z1, z2, z3, z4⟩, ⟨y0, y1, y2, y3, y4⟩⟩ := row5 hn1
      go_wp2_with fail
      obtain ⟨W2, hW2⟩ : ∃ W2, W2 = w1.alloc (.cells #[.int .i64 mk, .int .i64 mn, .string MS, .slice mA ml mc, .slice mB mm md] 25) := ⟨_, rfl⟩
      have HB2 := Lib.hid (show Below w.heap.size w W2 by rw [hW2]; exact (HB0.out.trans (HB1.out.mono HB0.out.size)).alloc (by have := HS1.out; omega) _)
      have HS2 := Lib.hid (show W2.heap.size = w1.heap.size + 1 by rw [hW2]; exact szAl _ _)
      have hk2 : ∀ k, k < w.heap.size + 3 → W2.heap[k]? = W0.heap[k]? := fun k hk => by
        rw [hW2]
        exact (Below.heap_alloc w1 _ k (by have := HS1.out; omega)).trans (HB1.out.block k (by rw [HS0.out]; omega))
      have HV2 := Lib.hid (show W2.heap[w.heap.size]? = some (.cells #[.int .i64 6, .int .i64 vn, .string VS, .slice A0 vl c0, .slice A20 len c20] 25 (0, 0)) ∧ W2.heap[w.heap.size + 1]? = some (.cells #[.int .i64 xk, .int .i64 xn, .string XS, .slice B0 xl e0, .slice B20 xm e20] 25 (0, 0)) ∧ W2.heap[w1.heap.size]? = some (.cells #[.int .i64 mk, .int .i64 mn, .string MS, .slice mA ml mc, .slice mB mm md] 25 (0, 0)) from ⟨(hk2 _ (by omega)).trans HV0.out, (hk2 _ (by omega)).trans HX0.out, by rw [hW2]; exact heapNew _ _⟩)
      have HR2 := Lib.hid ((hk2 (w.heap.size + 1 + 1) (by omega)).trans HR0.out)
      rw [← hW2]
      clear hW2 hk2 z0 z1 z2 z3 z4 y0 y1 y2 y3 y4 hn1
      refine wp_region_held_drew (S := fun W' => W'.heap[w.heap.size]? = some (.cells #[.int .i64 6, .int .i64 vn, .string VS, .slice A0 vl c0, .slice A20 len c20] 25 (0, 0)) ∧ W'.heap[w.heap.size + 1]? = some (.cells #[.int .i64 xk, .int .i64 xn, .string XS, .slice B0 xl e0, .slice B20 xm e20] 25 (0, 0)) ∧ W'.heap[w1.heap.size]? = some (.cells #[.int .i64 mk, .int .i64 mn, .string MS, .slice mA ml mc, .slice mB mm md] 25 (0, 0))) (by kernel_rfl) (HV2.out) (fun hHeld => ?_)
      refine wpAnyH_take (i := 0) (oi := { dst := some 23, op := Op.load 25 (Operand.tmp 3), type := 25, pos := "patch.go:94", after := #[], guard := none }) (v := ?_) rfl (by kernel_rfl) (by kernel_rfl) (by kernel_rfl) (fun _ _ _ h => h) (Or.inl ⟨by rfl, ?_⟩) hHeld ?_
      rotate_left
      · intro w hSw; (try dsimp only at hSw); obtain ⟨⟨p0, p1, p2, p3, p4⟩, -⟩ := row5 hSw.1; go_simp; with_reducible rfl
      try simp only [Act.put, List.setIfInBounds_toArray, List.set_cons_zero, List.set_cons_succ]
      refine wpAnyH_take (i := 1) (oi := { dst := some 24, op := Op.move (Operand.tmp 7), type := 9, pos := "patch.go:94", after := #[], guard := none }) (v := ?_) rfl (by kernel_rfl) (by kernel_rfl) (by kernel_rfl) (fun _ _ _ h => h) (Or.inl ⟨by rfl, ?_⟩) hHeld ?_
      rotate_left
      · intro w hSw; (try dsimp only at hSw); go_simp; with_reducible rfl
      try simp only [Act.put, List.setIfInBounds_toArray, List.set_cons_zero, List.set_cons_succ]
      refine wpAnyH_take (i := 2) (oi := { dst := some 25, op := Op.load 25 (Operand.tmp 8), type := 25, pos := "patch.go:94", after := #[], guard := none }) (v := ?_) rfl (by kernel_rfl) (by kernel_rfl) (by kernel_rfl) (fun _ _ _ h => h) (Or.inl ⟨by rfl, ?_⟩) hHeld ?_
      rotate_left
      · intro w hSw; (try dsimp only at hSw); obtain ⟨⟨p0, p1, p2, p3, p4⟩, -⟩ := row5 hSw.2.2; go_simp; with_reducible rfl
      try simp only [Act.put, List.setIfInBounds_toArray, List.set_cons_zero, List.set_cons_succ]
      refine wpAnyH_take (i := 3) (oi := { dst := some 26, op := Op.move (Operand.tmp 1), type := 32, pos := "patch.go:94", after := #[], guard := none }) (v := ?_) rfl (by kernel_rfl) (by kernel_rfl) (by kernel_rfl) (fun _ _ _ h => h) (Or.inl ⟨by rfl, ?_⟩) hHeld ?_
      rotate_left
      · intro w hSw; (try dsimp only at hSw); go_simp; with_reducible rfl
      try simp only [Act.put, List.setIfInBounds_toArray, List.set_cons_zero, List.set_cons_succ]
      refine wpAnyH_take (i := 4) (oi := { dst := some 27, op := Op.slice 32 (Operand.tmp 26) (some (Operand.const (Value.int IntKind.i64 1))) none none, type := 32, pos := "patch.go:94", after := #[{ on := 3, ground := Ground.data }], guard := none }) (v := ?_) rfl (by kernel_rfl) (by kernel_rfl) (by kernel_rfl) (fun _ _ _ h => h) (Or.inl ⟨by rfl, ?_⟩) hHeld ?_
      rotate_left
      · intro w hSw; (try dsimp only at hSw); have hcz := HCT.out; go_simp; with_reducible rfl
      try simp only [Act.put, List.setIfInBounds_toArray, List.set_cons_zero, List.set_cons_succ]
      refine wpAnyH_take (i := 5) (oi := { dst := some 28, op := Op.load 25 (Operand.tmp 5), type := 25, pos := "patch.go:94", after := #[], guard := none }) (v := ?_) rfl (by kernel_rfl) (by kernel_rfl) (by kernel_rfl) (fun _ _ _ h => h) (Or.inl ⟨by rfl, ?_⟩) hHeld ?_
      rotate_left
      · intro w hSw; (try dsimp only at hSw); obtain ⟨⟨p0, p1, p2, p3, p4⟩, -⟩ := row5 hSw.2.1; go_simp; with_reducible rfl
      try simp only [Act.put, List.setIfInBounds_toArray, List.set_cons_zero, List.set_cons_succ]
      refine wpAnyH_ready (rs := [6]) (by kernel_rfl) (by simp) ?_
      refine AllReadyH.cons (o := { dst := some 29, op := Op.call { callee := Callee.value (Operand.func 23), args := #[Operand.tmp 25, Operand.tmp 27, Operand.tmp 28], argTypes := #[25, 32, 25] }, type := 25, pos := "patch.go:94", after := #[{ on := 2, ground := Ground.data }, { on := 4, ground := Ground.data }, { on := 5, ground := Ground.data }], guard := none }) rfl (fun K hK => ?_) AllReadyH.nil
      go_simp
      go_at_call 23
      refine (HCHG.out _ HB2.out.drew).mono ?_
      rintro e w3 ⟨⟨cy, Fy, rfl, hcy, hny, hsy, hly⟩, hb3⟩
      have HB3 := Lib.hid (show Below W2.heap.size W2 w3 from (Below.drew (Below.refl W2.heap.size W2)).trans hb3)
      obtain ⟨m6, hm6, rfl⟩ := tail_of hcy p
      have HCY := Lib.hid hcy
      have HNY := Lib.hid hny
      have HSY := Lib.hid (show ∀ k ∈ Fy, k ∈ Fi ∨ W2.heap.size ≤ k from hsy)
      have HLY := Lib.hid hly
      have HM6 := Lib.hid hm6
      have HBW := Lib.hid (show Below w.heap.size w w3 from HB2.out.trans (HB3.out.mono HB2.out.size))
      have HWR := Lib.hid (fun (W : World) (hW : Below w.heap.size w W) => With_raw (tD T) vn VS A0 vl c0 A20 c20 m6 W ((HMT.out.raw (fun k hk => HLT.out k (HSUB.out k hk))).keep (fun q hq => hW.cell hq) |>.more hW.size) (by rw [HLN.out]; exact HML.out))
      rw [HLN.out, HM6.out, HXX.out] at HWR
      have HV3 := Lib.hid (show w3.heap[w.heap.size]? = some (.cells #[.int .i64 6, .int .i64 vn, .string VS, .slice A0 vl c0, .slice A20 len c20] 25 (0, 0)) ∧ w3.heap[w.heap.size + 1]? = some (.cells #[.int .i64 xk, .int .i64 xn, .string XS, .slice B0 xl e0, .slice B20 xm e20] 25 (0, 0)) ∧ w3.heap[w1.heap.size]? = some (.cells #[.int .i64 mk, .int .i64 mn, .string MS, .slice mA ml mc, .slice mB mm md] 25 (0, 0)) from ⟨(HB3.out.block w.heap.size (by rw [HS2.out]; have := HS1.out; omega)).trans HV2.out.1, (HB3.out.block (w.heap.size + 1) (by rw [HS2.out]; have := HS1.out; omega)).trans HV2.out.2.1, (HB3.out.block w1.heap.size (by rw [HS2.out]; omega)).trans HV2.out.2.2⟩)
      have HR3 := Lib.hid ((HB3.out.block (w.heap.size + 1 + 1) (by rw [HS2.out]; have := HS1.out; omega)).trans HR2.out)
      clear hcy hny hsy hly hm6 hb3
      obtain ⟨xnm, yk, yn, YS, yA, yl, yc, yB, ym, yd⟩ := m6
      simp only [m6tail] at HWR ⊢
      refine hK.out _ _ (HV3.out) (fun hHeld => ?_)
      clear hK K
      try simp only [Act.put, List.setIfInBounds_toArray, List.set_cons_zero, List.set_cons_succ]
      refine wpAnyH_ready (rs := [7]) (by kernel_rfl) (by simp) ?_
      refine AllReadyH.cons (o := { dst := some 30, op := Op.call { callee := Callee.value (Operand.func 38), args := #[Operand.tmp 23, Operand.tmp 24, Operand.tmp 29], argTypes := #[25, 9, 25] }, type := 25, pos := "patch.go:94", after := #[{ on := 0, ground := Ground.data }, { on := 1, ground := Ground.data }, { on := 6, ground := Ground.data }, { on := 6, ground := Ground.chain }], guard := none }) rfl (fun K hK => ?_) AllReadyH.nil
      go_simp
      go_at_call 38
      refine (HWR.out _ HBW.out).mono ?_
      rintro e wz hres
      have hbc : Below w.heap.size w w3 := HBW.out
      have hMTc := HMT.out.keep (w' := w3) (fun k hk => hbc.block k (HLT.out k (HSUB.out k hk)))
      obtain ⟨cs, F', rfl, k2, k3, k4, k5⟩ := with_end (wc := w3) HK6.out HTN.out HTV.out hMTc HSUB.out HNM.out HLT.out HM6.out HCY.out HNY.out (fun k hk => by
        rcases HSY.out k hk with h | h
        · exact .inl (HFIX.out k h)
        · exact .inr (by rw [HS2.out] at h; have := HS1.out; omega)) HLY.out hbc.size hres
      have hbz := hres.2
      have HBZ3 := Lib.hid (show Below w3.heap.size w3 wz from hbz)
      have HS3 := Lib.hid (show w1.heap.size + 1 ≤ w3.heap.size by have := HB3.out.size; rw [HS2.out] at this; exact this)
      have HRZ := Lib.hid ((HBZ3.out.block (w.heap.size + 1 + 1) (by have := HS3.out; have := HS1.out; omega)).trans HR3.out)
      have HBZ := Lib.hid (hbc.trans (HBZ3.out.mono hbc.size))
      obtain ⟨zA, zc, zB, zd, FLz, FMz, rfl, -⟩ := k2.cells
      have HRDZ := Lib.hid (And.intro k2 (And.intro k3 (And.intro k4 k5)))
      clear k2 k3 k4 k5 hres hMTc hbz hbc
      generalize (mpV (withN v p, withM v p y')).k = zk at *
      generalize (mpV (withN v p, withM v p y')).n = zn at *
      generalize strOf (mpV (withN v p, withM v p y')).s = zs at *
      generalize (mpV (withN v p, withM v p y')).l.length = zl at *
      generalize (mpV (withN v p, withM v p y')).ms.length = zm at *
      have HVZ := Lib.hid (show wz.heap[w.heap.size]? = some (.cells #[.int .i64 6, .int .i64 vn, .string VS, .slice A0 vl c0, .slice A20 len c20] 25 (0, 0)) ∧ wz.heap[w.heap.size + 1]? = some (.cells #[.int .i64 xk, .int .i64 xn, .string XS, .slice B0 xl e0, .slice B20 xm e20] 25 (0, 0)) ∧ wz.heap[w1.heap.size]? = some (.cells #[.int .i64 mk, .int .i64 mn, .string MS, .slice mA ml mc, .slice mB mm md] 25 (0, 0)) from ⟨(HBZ3.out.block w.heap.size (by have := HS3.out; have := HS1.out; omega)).trans HV3.out.1, (HBZ3.out.block (w.heap.size + 1) (by have := HS3.out; have := HS1.out; omega)).trans HV3.out.2.1, (HBZ3.out.block w1.heap.size (by have := HS3.out; omega)).trans HV3.out.2.2⟩)
      refine hK.out _ _ (HVZ.out) (fun hHeld => ?_)
      clear hK K
      try simp only [Act.put, List.setIfInBounds_toArray, List.set_cons_zero, List.set_cons_succ]
      refine wpAnyH_ready (rs := [8]) (by kernel_rfl) (by simp) ?_
      refine AllReadyH.cons (o := { dst := none, op := Op.store 25 (Operand.tmp 6) (Operand.tmp 30), type := 0, pos := "patch.go:94", after := #[{ on := 7, ground := Ground.data }, { on := 7, ground := Ground.chain }, { on := 0, ground := Ground.phase }, { on := 1, ground := Ground.phase }, { on := 2, ground := Ground.phase }, { on := 3, ground := Ground.phase }, { on := 4, ground := Ground.phase }, { on := 5, ground := Ground.phase }, { on := 6, ground := Ground.phase }, { on := 7, ground := Ground.phase }], guard := none }) rfl (fun K hK => ?_) AllReadyH.nil
      obtain ⟨⟨z0, z1, z2, z3, z4⟩, ⟨y0, y1, y2, y3, y4⟩⟩ := row5 HRZ.out
      go_simp
      clear z0 z1 z2 z3 z4 y0 y1 y2 y3 y4
      obtain ⟨W4, hW4⟩ : ∃ W4, W4 = (((((wz.setCell ⟨w.heap.size + 1 + 1, 0, none⟩ (.int .i64 zk)).setCell ⟨w.heap.size + 1 + 1, 1, none⟩ (.int .i64 zn)).setCell ⟨w.heap.size + 1 + 1, 2, none⟩ (.string zs)).setCell ⟨w.heap.size + 1 + 1, 3, none⟩ (.slice zA zl zc)).setCell ⟨w.heap.size + 1 + 1, 4, none⟩ (.slice zB zm zd)) := ⟨_, rfl⟩
      have HW4 := Lib.hid hW4
      have HR4 := Lib.hid (show W4.heap[w.heap.size + 1 + 1]? = some (.cells #[.int .i64 zk, .int .i64 zn, .string zs, .slice zA zl zc, .slice zB zm zd] 25 (0, 0)) by rw [hW4]; exact st5_row HRZ.out _ _ _ _ _)
      have HV4 := Lib.hid (show W4.heap[w.heap.size]? = some (.cells #[.int .i64 6, .int .i64 vn, .string VS, .slice A0 vl c0, .slice A20 len c20] 25 (0, 0)) ∧ W4.heap[w.heap.size + 1]? = some (.cells #[.int .i64 xk, .int .i64 xn, .string XS, .slice B0 xl e0, .slice B20 xm e20] 25 (0, 0)) ∧ W4.heap[w1.heap.size]? = some (.cells #[.int .i64 mk, .int .i64 mn, .string MS, .slice mA ml mc, .slice mB mm md] 25 (0, 0)) by rw [hW4]; exact ⟨(st5_other (by omega) _ _ _ _ _).trans HVZ.out.1, (st5_other (by omega) _ _ _ _ _).trans HVZ.out.2.1, (st5_other (by have := HS1.out; omega) _ _ _ _ _).trans HVZ.out.2.2⟩)
      rw [← hW4]
      clear hW4
      refine hK.out _ _ (HV4.out) (fun hHeld => ?_)
      clear hK K
      try simp only [Act.put, List.setIfInBounds_toArray, List.set_cons_zero, List.set_cons_succ]
      refine wpAnyH_done (by kernel_rfl) ?_ _
      clear hHeld
      go_wp2
      refine bodyPost_ret (res5 rfl rfl HR4.out) rfl ?_
      rw [HCH.out, HW4.out]
      obtain ⟨k2, k3, k4, k5⟩ := HRDZ.out
      exact gives_end k2 k3 (fun k hk => by
        rcases k4 k hk with h | ⟨h0, h⟩ | h
        · exact ⟨.inl h, by have := HLT.out k h; omega⟩
        · refine ⟨.inr h0, ?_⟩
          rcases HSY.out k h with h1 | h1
          · have := HFIN.out k h1; omega
          · rw [HS2.out] at h1; have := HS1.out; omega
        · have := HS3.out; have := HS1.out; exact ⟨.inr (by omega), by omega⟩) k5 HBZ.out (by omega) _ _ _ _ _ rfl rfl rfl rfl rfl
end Go.Proofs.Ytbfogkcnfnjcaaa.Pa
