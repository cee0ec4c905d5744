import Derived.Test.YtbepnjgbkfidiaaRePl
/- Plain facts on values of JSON: what is read, of what, and where; no run of the program in this text. -/
namespace Go.Proofs.Ytbepnjgbkfidiaa.Re
open Go.Proofs.Ytbepnjgbkfidiaa.Utf
open Go.Proofs.Ytbepnjgbkfidiaa.Sc

theorem map_ok {α β : Type} {f : α → β} {r : Rs α} {v : β} {j q : Nat} (h : r.map f = .ok v j q) : ∃ u, r = .ok u j q ∧ f u = v := by
  cases r with
  | bad a y => cases h
  | ok u i p => cases h; exact ⟨u, rfl, rfl⟩
theorem map_bad {α β : Type} {f : α → β} {r : Rs α} {a y : Int} (h : r.map f = .bad a y) : r = .bad a y := by
  cases r with
  | bad a y => cases h; rfl
  | ok u i p => cases h
theorem leaf (k n : Int) (s : List UInt8) : cnt (.mk k n s [] [] []) = 1 ∧ (∀ d, dp (.mk k n s [] [] []) d = d) ∧ okV (.mk k n s [] [] []) := by
  refine ⟨by simp [cnt, cntL], fun d => by simp [dp, dpL], by simp [okV, okL]⟩
theorem leaf_fit (k n : Int) (s : List UInt8) (d p : Nat) (h1 : ¬ 16 < d) (h2 : ¬ p = 8192) : fit (.mk k n s [] [] []) d p = 0 := by
  rw [fit, if_neg h1, if_neg h2, fitL, fitL, if_neg (by simp)]
theorem wdV_leaf (s : List UInt8) : ∃ k n, wdV s = .mk k n [] [] [] [] := by
  unfold wdV
  by_cases h : s = wNull
  · rw [if_pos h]; exact ⟨_, _, rfl⟩
  · rw [if_neg h]
    by_cases h2 : s = wTrue
    · rw [if_pos h2]; exact ⟨_, _, rfl⟩
    · rw [if_neg h2]; exact ⟨_, _, rfl⟩
theorem tk_kind {ts : List Tok} {E : Int} {i : Nat} (h : (tk ts E i).1 ≠ 0) : i < ts.length := by
  rcases Nat.lt_or_ge i ts.length with h1 | h1
  · exact h1
  · rw [tk_out h1] at h; exact absurd rfl h

/-- what is read: the numbers, the depth, the names -/
theorem p_ok (ts : List Tok) (E : Int) : ∀ f,
    (∀ d i p v j q, pV ts E f d i p = .ok v j q → p ≤ 8192 → i < j ∧ j ≤ ts.length ∧ q = p + cnt v ∧ q ≤ 8192 ∧ dp v d ≤ 16 ∧ okV v) ∧
    (∀ d i p l j q, pL ts E f d i p = .ok l j q → p ≤ 8192 → i < j ∧ j ≤ ts.length ∧ q = p + cntL l ∧ q ≤ 8192 ∧ dpL l (d + 1) ≤ 16 ∧ okL l ∧ l ≠ []) ∧
    (∀ d i p ns x j q, pM ts E f d i p ns = .ok x j q → p ≤ 8192 → ns.Nodup → i < j ∧ j ≤ ts.length ∧ q = p + cntL x.2 ∧ q ≤ 8192 ∧ dpL x.2 (d + 1) ≤ 16 ∧ okL x.2 ∧ x.1.length = x.2.length ∧ (ns ++ x.1).Nodup ∧ x.1 ≠ []) := by
  intro f
  induction f with
  | zero => exact ⟨fun d i p v j q h => (by rw [pV] at h; cases h), fun d i p v j q h => (by rw [pL] at h; cases h), fun d i p ns v j q h => (by rw [pM] at h; cases h)⟩
  | succ f ih =>
    obtain ⟨iV, iL, iM⟩ := ih
    refine ⟨fun d i p v j q h hp => ?_, fun d i p l j q h hp => ?_, fun d i p ns x j q h hp hn => ?_⟩
    · rw [pV] at h
      by_cases c1 : badV (tk ts E i) = true
      · rw [if_pos c1] at h; cases h
      have hi := badV_in (ts := ts) (E := E) (i := i) (by simpa using c1)
      rw [if_neg c1] at h
      by_cases c2 : 16 < d
      · rw [if_pos c2] at h; cases h
      rw [if_neg c2] at h
      by_cases c3 : p = 8192
      · rw [if_pos c3] at h; cases h
      rw [if_neg c3] at h
      by_cases c4 : (tk ts E i).1 = 4
      · rw [if_pos c4] at h; cases h
        obtain ⟨l1, l2, l3⟩ := leaf 4 0 (tk ts E i).2.2.1
        exact ⟨by omega, by omega, by rw [txV, l1], by omega, by rw [txV, l2]; omega, l3⟩
      rw [if_neg c4] at h
      by_cases c5 : (tk ts E i).1 = 3
      · rw [if_pos c5] at h; cases h
        obtain ⟨l1, l2, l3⟩ := leaf 3 (tk ts E i).2.1 []
        exact ⟨by omega, by omega, by rw [nmV, l1], by omega, by rw [nmV, l2]; omega, l3⟩
      rw [if_neg c5] at h
      by_cases c6 : (tk ts E i).1 = 2
      · rw [if_pos c6] at h; cases h
        obtain ⟨k, n, hw⟩ := wdV_leaf (tk ts E i).2.2.1
        obtain ⟨l1, l2, l3⟩ := leaf k n []
        rw [hw]
        exact ⟨by omega, by omega, by rw [l1], by omega, by rw [l2]; omega, l3⟩
      rw [if_neg c6] at h
      by_cases c7 : (tk ts E i).2.2.1 = [91]
      · rw [if_pos c7] at h
        by_cases c8 : isM (tk ts E (i + 1)) 93 = true
        · rw [if_pos c8] at h; cases h
          have := isM_in c8
          obtain ⟨l1, l2, l3⟩ := leaf 5 0 []
          exact ⟨by omega, by omega, by rw [lsV, l1], by omega, by rw [lsV, l2]; omega, l3⟩
        · rw [if_neg c8] at h
          obtain ⟨u, h1, rfl⟩ := map_ok h
          obtain ⟨a1, a2, a3, a4, a5, a6, a7⟩ := iL d (i + 1) (p + 1) u j q h1 (by omega)
          refine ⟨by omega, a2, ?_, a4, ?_, ?_⟩
          · rw [lsV, cnt, cntL]; omega
          · rw [lsV, dp, dpL]; omega
          · rw [lsV, okV, okL]; exact ⟨rfl, List.nodup_nil, a6, trivial⟩
      · rw [if_neg c7] at h
        by_cases c8 : isM (tk ts E (i + 1)) 125 = true
        · rw [if_pos c8] at h; cases h
          have := isM_in c8
          obtain ⟨l1, l2, l3⟩ := leaf 6 0 []
          exact ⟨by omega, by omega, by rw [mpV, l1], by omega, by rw [mpV, l2]; omega, l3⟩
        · rw [if_neg c8] at h
          obtain ⟨u, h1, rfl⟩ := map_ok h
          obtain ⟨a1, a2, a3, a4, a5, a6, a7, a8, _⟩ := iM d (i + 1) (p + 1) [] u j q h1 (by omega) List.nodup_nil
          refine ⟨by omega, a2, ?_, a4, ?_, ?_⟩
          · rw [mpV, cnt, cntL]; omega
          · rw [mpV, dp, dpL]; omega
          · rw [mpV, okV, okL]; exact ⟨a7, by simpa using a8, trivial, a6⟩
    · rw [pL] at h
      rcases hv : pV ts E f (d + 1) i p with ⟨a, y⟩ | ⟨v, j1, q1⟩
      · rw [hv] at h; cases h
      · rw [hv] at h
        simp only at h
        obtain ⟨b1, b2, b3, b4, b5, b6⟩ := iV (d + 1) i p v j1 q1 hv hp
        by_cases c1 : isM (tk ts E j1) 93 = true
        · rw [if_pos c1] at h; cases h
          have := isM_in c1
          refine ⟨by omega, by omega, by rw [cntL, cntL]; omega, b4, by rw [dpL, dpL]; omega, ⟨b6, trivial⟩, by simp⟩
        · rw [if_neg c1] at h
          by_cases c2 : isM (tk ts E j1) 44 = true
          · rw [if_pos c2] at h
            obtain ⟨u, h1, rfl⟩ := map_ok h
            obtain ⟨a1, a2, a3, a4, a5, a6, a7⟩ := iL d (j1 + 1) q1 u j q h1 b4
            refine ⟨by omega, a2, by rw [cntL]; omega, a4, by rw [dpL]; omega, ⟨b6, a6⟩, by simp⟩
          · rw [if_neg c2] at h; cases h
    · rw [pM] at h
      by_cases c0 : (tk ts E i).1 ≠ 4
      · rw [if_pos c0] at h; cases h
      rw [if_neg c0] at h
      by_cases c1 : (tk ts E i).2.2.1 ∈ ns
      · rw [if_pos c1] at h; cases h
      rw [if_neg c1] at h
      by_cases c2 : isM (tk ts E (i + 1)) 58 = false
      · rw [if_pos c2] at h; cases h
      rw [if_neg c2] at h
      have hn2 : (ns ++ [(tk ts E i).2.2.1]).Nodup := by
        rw [List.nodup_append]
        refine ⟨hn, by simp, ?_⟩
        intro a ha b hb e
        simp at hb
        subst hb e
        exact c1 ha
      rcases hv : pV ts E f (d + 1) (i + 1 + 1) p with ⟨a, y⟩ | ⟨v, j1, q1⟩
      · rw [hv] at h; cases h
      · rw [hv] at h
        simp only at h
        obtain ⟨b1, b2, b3, b4, b5, b6⟩ := iV (d + 1) (i + 1 + 1) p v j1 q1 hv hp
        by_cases c3 : isM (tk ts E j1) 125 = true
        · rw [if_pos c3] at h; cases h
          have := isM_in c3
          refine ⟨by omega, by omega, by rw [cntL, cntL]; omega, b4, by rw [dpL, dpL]; omega, ⟨b6, trivial⟩, rfl, hn2, by simp⟩
        · rw [if_neg c3] at h
          by_cases c4 : isM (tk ts E j1) 44 = true
          · rw [if_pos c4] at h
            obtain ⟨u, h1, rfl⟩ := map_ok h
            obtain ⟨a1, a2, a3, a4, a5, a6, a7, a8, _⟩ := iM d (j1 + 1) q1 _ u j q h1 b4 hn2
            refine ⟨by omega, a2, by simp only [cntL]; omega, a4, by simp only [dpL]; omega, ⟨b6, a6⟩, by simp only [List.length_cons]; omega, by simpa using a8, by simp⟩
          · rw [if_neg c4] at h; cases h

/-- what is wrong, and where -/
def why (y : Int) : Prop := y = 50 ∨ y = 51 ∨ y = 52 ∨ y = 53
theorem p_bad (ts : List Tok) (E : Int) : ∀ f,
    (∀ d i p a y, pV ts E f d i p = .bad a y → (∃ n, a = (tk ts E n).2.2.2) ∧ why y) ∧
    (∀ d i p a y, pL ts E f d i p = .bad a y → (∃ n, a = (tk ts E n).2.2.2) ∧ why y) ∧
    (∀ d i p ns a y, pM ts E f d i p ns = .bad a y → (∃ n, a = (tk ts E n).2.2.2) ∧ why y) := by
  intro f
  induction f with
  | zero => exact ⟨fun d i p a y h => by rw [pV] at h; cases h; exact ⟨⟨_, rfl⟩, .inl rfl⟩, fun d i p a y h => by rw [pL] at h; cases h; exact ⟨⟨_, rfl⟩, .inl rfl⟩, fun d i p ns a y h => by rw [pM] at h; cases h; exact ⟨⟨_, rfl⟩, .inl rfl⟩⟩
  | succ f ih =>
    obtain ⟨iV, iL, iM⟩ := ih
    refine ⟨fun d i p a y h => ?_, fun d i p a y h => ?_, fun d i p ns a y h => ?_⟩
    · rw [pV] at h
      split at h
      · cases h; exact ⟨⟨_, rfl⟩, .inl rfl⟩
      split at h
      · cases h; exact ⟨⟨_, rfl⟩, .inr (.inl rfl)⟩
      split at h
      · cases h; exact ⟨⟨_, rfl⟩, .inr (.inr (.inr rfl))⟩
      split at h
      · cases h
      split at h
      · cases h
      split at h
      · cases h
      split at h
      · split at h
        · cases h
        · exact iL _ _ _ _ _ (map_bad h)
      · split at h
        · cases h
        · exact iM _ _ _ _ _ _ (map_bad h)
    · rw [pL] at h
      rcases hv : pV ts E f (d + 1) i p with ⟨a1, y1⟩ | ⟨v, j1, q1⟩
      · rw [hv] at h; cases h; exact iV _ _ _ _ _ hv
      · rw [hv] at h
        simp only at h
        split at h
        · cases h
        split at h
        · exact iL _ _ _ _ _ (map_bad h)
        · cases h; exact ⟨⟨_, rfl⟩, .inl rfl⟩
    · rw [pM] at h
      split at h
      · cases h; exact ⟨⟨_, rfl⟩, .inl rfl⟩
      split at h
      · cases h; exact ⟨⟨_, rfl⟩, .inr (.inr (.inl rfl))⟩
      split at h
      · cases h; exact ⟨⟨_, rfl⟩, .inl rfl⟩
      rcases hv : pV ts E f (d + 1) (i + 1 + 1) p with ⟨a1, y1⟩ | ⟨v, j1, q1⟩
      · rw [hv] at h; cases h; exact iV _ _ _ _ _ hv
      · rw [hv] at h
        simp only at h
        split at h
        · cases h
        split at h
        · exact iM _ _ _ _ _ _ (map_bad h)
        · cases h; exact ⟨⟨_, rfl⟩, .inl rfl⟩

/-! ### the same tokens, somewhere else -/
theorem isM_sh (d : Nat) (t : Tok) (c : UInt8) : isM (shT d t) c = isM t c := rfl
theorem badV_sh (d : Nat) (t : Tok) : badV (shT d t) = badV t := rfl
theorem sh1 (d : Nat) (t : Tok) : (shT d t).1 = t.1 := rfl
theorem sh2 (d : Nat) (t : Tok) : (shT d t).2.1 = t.2.1 := rfl
theorem sh3 (d : Nat) (t : Tok) : (shT d t).2.2.1 = t.2.2.1 := rfl
theorem sh4 (d : Nat) (t : Tok) : (shT d t).2.2.2 = t.2.2.2 + (d : Int) := rfl
def Rs.sh {α : Type} (d : Nat) : Rs α → Rs α
  | .bad a y => .bad (a + (d : Int)) y
  | .ok v i p => .ok v i p
theorem sh_map {α β : Type} (g : α → β) (d : Nat) (r : Rs α) : (r.sh d).map g = (r.map g).sh d := by cases r <;> rfl
/-- all tokens so much further on -/
theorem p_sh {ts us : List Tok} {E F : Int} {d0 : Nat} (ht : ∀ i, tk us F i = shT d0 (tk ts E i)) : ∀ f,
    (∀ d i p, pV us F f d i p = (pV ts E f d i p).sh d0) ∧ (∀ d i p, pL us F f d i p = (pL ts E f d i p).sh d0) ∧ (∀ d i p ns, pM us F f d i p ns = (pM ts E f d i p ns).sh d0) := by
  intro f
  induction f with
  | zero => exact ⟨fun d i p => by rw [pV, pV, ht]; rfl, fun d i p => by rw [pL, pL, ht]; rfl, fun d i p ns => by rw [pM, pM, ht]; rfl⟩
  | succ f ih =>
    obtain ⟨iV, iL, iM⟩ := ih
    refine ⟨fun d i p => ?_, fun d i p => ?_, fun d i p ns => ?_⟩
    · rw [pV, pV, ht, ht, badV_sh, isM_sh, isM_sh, iL, iM, sh_map, sh_map, sh1, sh2, sh3, sh4]
      by_cases c1 : badV (tk ts E i) = true
      · rw [if_pos c1, if_pos c1]; rfl
      rw [if_neg c1, if_neg c1]
      by_cases c2 : 16 < d
      · rw [if_pos c2, if_pos c2]; rfl
      rw [if_neg c2, if_neg c2]
      by_cases c3 : p = 8192
      · rw [if_pos c3, if_pos c3]; rfl
      rw [if_neg c3, if_neg c3]
      by_cases c4 : (tk ts E i).1 = 4
      · rw [if_pos c4, if_pos c4]; rfl
      rw [if_neg c4, if_neg c4]
      by_cases c5 : (tk ts E i).1 = 3
      · rw [if_pos c5, if_pos c5]; rfl
      rw [if_neg c5, if_neg c5]
      by_cases c6 : (tk ts E i).1 = 2
      · rw [if_pos c6, if_pos c6]; rfl
      rw [if_neg c6, if_neg c6]
      by_cases c7 : (tk ts E i).2.2.1 = [91]
      · rw [if_pos c7, if_pos c7]
        by_cases c8 : isM (tk ts E (i + 1)) 93 = true
        · rw [if_pos c8, if_pos c8]; rfl
        · rw [if_neg c8, if_neg c8]
      · rw [if_neg c7, if_neg c7]
        by_cases c8 : isM (tk ts E (i + 1)) 125 = true
        · rw [if_pos c8, if_pos c8]; rfl
        · rw [if_neg c8, if_neg c8]
    · rw [pL, pL, iV]
      rcases pV ts E f (d + 1) i p with ⟨a, y⟩ | ⟨v, j, q⟩
      · rfl
      · simp only [Rs.sh]
        rw [ht, isM_sh, isM_sh, iL, sh_map, sh4]
        by_cases c1 : isM (tk ts E j) 93 = true
        · rw [if_pos c1, if_pos c1]
        · rw [if_neg c1, if_neg c1]
          by_cases c2 : isM (tk ts E j) 44 = true
          · rw [if_pos c2, if_pos c2]; rfl
          · rw [if_neg c2, if_neg c2]
    · rw [pM, pM, ht, ht, isM_sh, iV, sh1, sh3, sh4, sh4]
      by_cases c1 : (tk ts E i).1 ≠ 4
      · rw [if_pos c1, if_pos c1]; rfl
      rw [if_neg c1, if_neg c1]
      by_cases c2 : (tk ts E i).2.2.1 ∈ ns
      · rw [if_pos c2, if_pos c2]; rfl
      rw [if_neg c2, if_neg c2]
      by_cases c3 : isM (tk ts E (i + 1)) 58 = false
      · rw [if_pos c3, if_pos c3]; rfl
      rw [if_neg c3, if_neg c3]
      rcases pV ts E f (d + 1) (i + 1 + 1) p with ⟨a, y⟩ | ⟨v, j, q⟩
      · rfl
      · simp only [Rs.sh]
        rw [ht, isM_sh, isM_sh, iM, sh_map, sh4]
        by_cases c4 : isM (tk ts E j) 125 = true
        · rw [if_pos c4, if_pos c4]
        · rw [if_neg c4, if_neg c4]
          by_cases c5 : isM (tk ts E j) 44 = true
          · rw [if_pos c5, if_pos c5]; rfl
          · rw [if_neg c5, if_neg c5]
end Go.Proofs.Ytbepnjgbkfidiaa.Re
