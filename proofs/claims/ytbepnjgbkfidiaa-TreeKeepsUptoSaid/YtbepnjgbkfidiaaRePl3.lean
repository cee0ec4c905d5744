import Derived.Test.YtbepnjgbkfidiaaRePl2
/- Plain facts on values of JSON: the same tokens within other ones. No run of the program in this text. -/
namespace Go.Proofs.Ytbepnjgbkfidiaa.Re
open Go.Proofs.Ytbepnjgbkfidiaa.Utf
open Go.Proofs.Ytbepnjgbkfidiaa.Sc

def EmbR {α : Type} (r : Rs α) (v : α) (j q : Nat) (y : Int) : Prop := (y = 0 ∧ r = .ok v j q) ∨ (y ≠ 0 ∧ ∃ a, r = .bad a y)
theorem EmbR.map {α β : Type} {r : Rs α} {v : α} {j q : Nat} {y : Int} (h : EmbR r v j q y) (f : α → β) : EmbR (r.map f) (f v) j q y := by
  rcases h with ⟨h1, rfl⟩ | ⟨h1, a, rfl⟩
  · exact .inl ⟨h1, rfl⟩
  · exact .inr ⟨h1, a, rfl⟩
theorem fit_ls (l : List V) (d p : Nat) (h1 : ¬ 16 < d) (h2 : ¬ p = 8192) : fit (lsV l) d p = fitL l (d + 1) (p + 1) := by
  rw [lsV, fit, if_neg h1, if_neg h2, fitL]
  by_cases h : fitL l (d + 1) (p + 1) = 0
  · rw [if_neg (by simpa using h), h]
  · rw [if_pos h]
theorem fit_mp (x : List (List UInt8) × List V) (d p : Nat) (h1 : ¬ 16 < d) (h2 : ¬ p = 8192) : fit (mpV x) d p = fitL x.2 (d + 1) (p + 1) := by
  rw [mpV, fit, if_neg h1, if_neg h2, fitL, cntL, if_neg (by simp)]
theorem fit_deep (v : V) (d p : Nat) (h : 16 < d) : fit v d p = 51 := by cases v; rw [fit, if_pos h]
theorem fit_many (v : V) (d p : Nat) (h1 : ¬ 16 < d) (h : p = 8192) : fit v d p = 53 := by cases v; rw [fit, if_neg h1, if_pos h]

theorem p_emb {ts us : List Tok} {E F : Int} {m d0 : Nat} (ht : ∀ i, i < ts.length → tk us F (m + i) = shT d0 (tk ts E i)) : ∀ f g, f ≤ g →
    (∀ d i p v j q, pV ts E f d i p = .ok v j q → p ≤ 8192 → ∀ d' p', p' ≤ 8192 → EmbR (pV us F g d' (m + i) p') v (m + j) (p' + cnt v) (fit v d' p')) ∧
    (∀ d i p l j q, pL ts E f d i p = .ok l j q → p ≤ 8192 → ∀ d' p', p' ≤ 8192 → EmbR (pL us F g d' (m + i) p') l (m + j) (p' + cntL l) (fitL l (d' + 1) p')) ∧
    (∀ d i p ns x j q, pM ts E f d i p ns = .ok x j q → p ≤ 8192 → ns.Nodup → ∀ d' p', p' ≤ 8192 → EmbR (pM us F g d' (m + i) p' ns) x (m + j) (p' + cntL x.2) (fitL x.2 (d' + 1) p')) := by
  intro f
  induction f with
  | zero => exact fun g _ => ⟨fun d i p v j q h => (by rw [pV] at h; cases h), fun d i p v j q h => (by rw [pL] at h; cases h), fun d i p ns v j q h => (by rw [pM] at h; cases h)⟩
  | succ f ih =>
    intro g hfg
    obtain ⟨g, rfl⟩ : ∃ g', g = g' + 1 := ⟨g - 1, by omega⟩
    obtain ⟨iV, iL, iM⟩ := ih g (by omega)
    obtain ⟨oV, oL, oM⟩ := p_ok ts E f
    refine ⟨fun d i p v j q h hp d' p' hp' => ?_, fun d i p l j q h hp d' p' hp' => ?_, fun d i p ns x j q h hp hn d' p' hp' => ?_⟩
    · rw [pV] at h
      by_cases c1 : badV (tk ts E i) = true
      · rw [if_pos c1] at h; cases h
      have hi := badV_in (ts := ts) (E := E) (i := i) (by simpa using c1)
      rw [if_neg c1] at h
      by_cases c2 : 16 < d
      · rw [if_pos c2] at h; cases h
      rw [if_neg c2] at h
      by_cases c3 : p = 8192
      · rw [if_pos c3] at h; cases h
      rw [if_neg c3] at h
      rw [pV, ht i hi, badV_sh, if_neg c1, sh1, sh2, sh3, sh4]
      by_cases e1 : 16 < d'
      · rw [if_pos e1, fit_deep _ _ _ e1]
        exact .inr ⟨by decide, _, rfl⟩
      rw [if_neg e1]
      by_cases e2 : p' = 8192
      · rw [if_pos e2, fit_many _ _ _ e1 e2]
        exact .inr ⟨by decide, _, rfl⟩
      rw [if_neg e2]
      by_cases c4 : (tk ts E i).1 = 4
      · rw [if_pos c4] at h ⊢; cases h
        exact .inl ⟨leaf_fit _ _ _ _ _ e1 e2, by rw [txV, (leaf _ _ _).1]; rfl⟩
      rw [if_neg c4] at h ⊢
      by_cases c5 : (tk ts E i).1 = 3
      · rw [if_pos c5] at h ⊢; cases h
        exact .inl ⟨leaf_fit _ _ _ _ _ e1 e2, by rw [nmV, (leaf _ _ _).1]; rfl⟩
      rw [if_neg c5] at h ⊢
      by_cases c6 : (tk ts E i).1 = 2
      · rw [if_pos c6] at h ⊢; cases h
        obtain ⟨k, n, hw⟩ := wdV_leaf (tk ts E i).2.2.1
        rw [hw]
        exact .inl ⟨leaf_fit _ _ _ _ _ e1 e2, by rw [(leaf _ _ _).1]; rfl⟩
      rw [if_neg c6] at h ⊢
      by_cases c7 : (tk ts E i).2.2.1 = [91]
      · rw [if_pos c7] at h ⊢
        by_cases c8 : isM (tk ts E (i + 1)) 93 = true
        · rw [if_pos c8] at h; cases h
          rw [show m + i + 1 = m + (i + 1) from rfl, ht _ (isM_in c8), isM_sh, if_pos c8]
          exact .inl ⟨leaf_fit _ _ _ _ _ e1 e2, by rw [lsV, (leaf _ _ _).1]; rfl⟩
        · rw [if_neg c8] at h
          obtain ⟨u, h1, rfl⟩ := map_ok h
          obtain ⟨a1, a2, _⟩ := oL d (i + 1) (p + 1) u j q h1 (by omega)
          rw [show m + i + 1 = m + (i + 1) from rfl, ht _ (by omega), isM_sh, if_neg c8, fit_ls _ _ _ e1 e2]
          have := (iL d (i + 1) (p + 1) u j q h1 (by omega) d' (p' + 1) (by omega)).map lsV
          rw [show p' + cnt (lsV u) = p' + 1 + cntL u by rw [lsV, cnt, cntL]; omega]
          exact this
      · rw [if_neg c7] at h ⊢
        by_cases c8 : isM (tk ts E (i + 1)) 125 = true
        · rw [if_pos c8] at h; cases h
          rw [show m + i + 1 = m + (i + 1) from rfl, ht _ (isM_in c8), isM_sh, if_pos c8]
          exact .inl ⟨leaf_fit _ _ _ _ _ e1 e2, by rw [mpV, (leaf _ _ _).1]; rfl⟩
        · rw [if_neg c8] at h
          obtain ⟨u, h1, rfl⟩ := map_ok h
          obtain ⟨a1, a2, _⟩ := oM d (i + 1) (p + 1) [] u j q h1 (by omega) List.nodup_nil
          rw [show m + i + 1 = m + (i + 1) from rfl, ht _ (by omega), isM_sh, if_neg c8, fit_mp _ _ _ e1 e2]
          have := (iM d (i + 1) (p + 1) [] u j q h1 (by omega) List.nodup_nil d' (p' + 1) (by omega)).map mpV
          rw [show p' + cnt (mpV u) = p' + 1 + cntL u.2 by rw [mpV, cnt, cntL]; omega]
          exact this
    · rw [pL] at h
      rw [pL]
      rcases hv : pV ts E f (d + 1) i p with ⟨a, y⟩ | ⟨v, j1, q1⟩
      · rw [hv] at h; cases h
      · rw [hv] at h
        simp only at h
        obtain ⟨b1, b2, b3, b4, b5, b6⟩ := oV (d + 1) i p v j1 q1 hv hp
        rcases iV (d + 1) i p v j1 q1 hv hp (d' + 1) p' hp' with ⟨k1, k2⟩ | ⟨k1, a, k2⟩
        · have hfit := ((fit_iff v (d' + 1) p' hp').1.1 k1).2
          rw [k2]
          simp only
          by_cases c1 : isM (tk ts E j1) 93 = true
          · rw [if_pos c1] at h; cases h
            rw [ht _ (isM_in c1), isM_sh, if_pos c1, fitL, fitL, if_neg (by simpa using k1), cntL, cntL]
            exact .inl ⟨rfl, rfl⟩
          · rw [if_neg c1] at h
            by_cases c2 : isM (tk ts E j1) 44 = true
            · rw [if_pos c2] at h
              obtain ⟨u, h1, rfl⟩ := map_ok h
              rw [ht _ (isM_in c2), isM_sh, isM_sh, if_neg c1, if_pos c2, fitL, if_neg (by simpa using k1), cntL, ← Nat.add_assoc]
              exact (iL d (j1 + 1) q1 u j q h1 b4 d' (p' + cnt v) hfit).map _
            · rw [if_neg c2] at h; cases h
        · rw [k2]
          refine .inr ?_
          have hfl : fitL l (d' + 1) p' = fit v (d' + 1) p' := by
            by_cases c1 : isM (tk ts E j1) 93 = true
            · rw [if_pos c1] at h; cases h
              rw [fitL, if_pos k1]
            · rw [if_neg c1] at h
              by_cases c2 : isM (tk ts E j1) 44 = true
              · rw [if_pos c2] at h
                obtain ⟨u, h1, rfl⟩ := map_ok h
                rw [fitL, if_pos k1]
              · rw [if_neg c2] at h; cases h
          rw [hfl]
          exact ⟨k1, a, rfl⟩
    · rw [pM] at h
      rw [pM]
      by_cases c0 : (tk ts E i).1 ≠ 4
      · rw [if_pos c0] at h; cases h
      have hi : i < ts.length := tk_kind (ts := ts) (E := E) (by have : (tk ts E i).1 = 4 := by simpa using c0
                                                                 omega)
      rw [if_neg c0] at h
      by_cases c1 : (tk ts E i).2.2.1 ∈ ns
      · rw [if_pos c1] at h; cases h
      rw [if_neg c1] at h
      by_cases c2 : isM (tk ts E (i + 1)) 58 = false
      · rw [if_pos c2] at h; cases h
      rw [if_neg c2] at h
      have c2' : isM (tk ts E (i + 1)) 58 = true := by simpa using c2
      have hn2 : (ns ++ [(tk ts E i).2.2.1]).Nodup := by
        rw [List.nodup_append]
        refine ⟨hn, by simp, ?_⟩
        intro a ha b hb e
        simp at hb
        subst hb e
        exact c1 ha
      rw [ht i hi, sh1, sh3, sh4, if_neg c0, if_neg c1, show m + i + 1 = m + (i + 1) from rfl, ht _ (isM_in c2'), isM_sh, if_neg c2, show m + (i + 1) + 1 = m + (i + 1 + 1) from rfl]
      rcases hv : pV ts E f (d + 1) (i + 1 + 1) p with ⟨a, y⟩ | ⟨v, j1, q1⟩
      · rw [hv] at h; cases h
      · rw [hv] at h
        simp only at h
        obtain ⟨b1, b2, b3, b4, b5, b6⟩ := oV (d + 1) (i + 1 + 1) p v j1 q1 hv hp
        rcases iV (d + 1) (i + 1 + 1) p v j1 q1 hv hp (d' + 1) p' hp' with ⟨k1, k2⟩ | ⟨k1, a, k2⟩
        · have hfit := ((fit_iff v (d' + 1) p' hp').1.1 k1).2
          rw [k2]
          simp only
          by_cases c3 : isM (tk ts E j1) 125 = true
          · rw [if_pos c3] at h; cases h
            rw [ht _ (isM_in c3), isM_sh, if_pos c3, fitL, fitL, if_neg (by simpa using k1), cntL, cntL]
            exact .inl ⟨rfl, rfl⟩
          · rw [if_neg c3] at h
            by_cases c4 : isM (tk ts E j1) 44 = true
            · rw [if_pos c4] at h
              obtain ⟨u, h1, rfl⟩ := map_ok h
              rw [ht _ (isM_in c4), isM_sh, isM_sh, if_neg c3, if_pos c4, fitL, if_neg (by simpa using k1), cntL, ← Nat.add_assoc]
              exact (iM d (j1 + 1) q1 _ u j q h1 b4 hn2 d' (p' + cnt v) hfit).map _
            · rw [if_neg c4] at h; cases h
        · rw [k2]
          refine .inr ?_
          have hfl : fitL x.2 (d' + 1) p' = fit v (d' + 1) p' := by
            by_cases c3 : isM (tk ts E j1) 125 = true
            · rw [if_pos c3] at h; cases h
              rw [fitL, if_pos k1]
            · rw [if_neg c3] at h
              by_cases c4 : isM (tk ts E j1) 44 = true
              · rw [if_pos c4] at h
                obtain ⟨u, h1, rfl⟩ := map_ok h
                rw [fitL, if_pos k1]
              · rw [if_neg c4] at h; cases h
          rw [hfl]
          exact ⟨k1, a, rfl⟩
end Go.Proofs.Ytbepnjgbkfidiaa.Re
