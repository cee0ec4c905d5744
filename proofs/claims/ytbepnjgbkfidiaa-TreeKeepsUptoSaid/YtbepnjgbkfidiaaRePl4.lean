import Derived.Test.YtbepnjgbkfidiaaRePl3
/- Plain facts on values of JSON: what is read of whole texts. No run of the program in this text. -/
namespace Go.Proofs.Ytbepnjgbkfidiaa.Re
open Go.Proofs.Ytbepnjgbkfidiaa.Utf
open Go.Proofs.Ytbepnjgbkfidiaa.Sc

theorem rdT_ok {ts : List Tok} {E : Int} (h : (rdT ts E).2.2 = 0) : ∃ p, pV ts E (fuelOf ts) 1 0 0 = .ok (rdT ts E).1 ts.length p ∧ (rdT ts E).2.1 = 0 := by
  unfold rdT at h ⊢
  rcases hv : pV ts E (fuelOf ts) 1 0 0 with ⟨a, y⟩ | ⟨v, i, p⟩
  · rw [hv] at h
    simp only at h
    have := ((p_bad ts E (fuelOf ts)).1 _ _ _ _ _ hv).2
    unfold why at this
    omega
  · rw [hv] at h
    simp only at h ⊢
    by_cases hi : i < ts.length
    · rw [if_pos hi] at h; simp at h
    · rw [if_neg hi]
      obtain ⟨_, h2, _⟩ := (p_ok ts E (fuelOf ts)).1 _ _ _ _ _ _ hv (by omega)
      obtain rfl : i = ts.length := by omega
      exact ⟨p, rfl, rfl⟩
theorem rdT_of {ts : List Tok} {E : Int} {v : V} {p : Nat} (h : pV ts E (fuelOf ts) 1 0 0 = .ok v ts.length p) : rdT ts E = (v, 0, 0) := by
  unfold rdT
  rw [h]
  simp only
  rw [if_neg (by omega)]
/-- of a fault: no value, and the place of a token or of the end -/
theorem rdT_bad {ts : List Tok} {E : Int} (h : (rdT ts E).2.2 ≠ 0) : (rdT ts E).1 = V0 ∧ (∃ n, (rdT ts E).2.1 = (tk ts E n).2.2.2) ∧ why (rdT ts E).2.2 := by
  unfold rdT at h ⊢
  rcases hv : pV ts E (fuelOf ts) 1 0 0 with ⟨a, y⟩ | ⟨v, i, p⟩
  · obtain ⟨h1, h2⟩ := (p_bad ts E (fuelOf ts)).1 _ _ _ _ _ hv
    exact ⟨rfl, h1, h2⟩
  · rw [hv] at h
    simp only at h ⊢
    by_cases hi : i < ts.length
    · rw [if_pos hi]; exact ⟨rfl, ⟨i, rfl⟩, .inl rfl⟩
    · rw [if_neg hi] at h; exact absurd rfl h
theorem rdV_ok {l : List UInt8} (h : (rdV l).2.2 = 0) : (scnS l).2.2 = 0 ∧ rdV l = rdT (scnS l).1 (l.length : Int) := by
  unfold rdV at h ⊢
  by_cases he : (scnS l).2.2 = 0
  · rw [if_neg (by simpa using he)]; exact ⟨he, rfl⟩
  · rw [if_pos he] at h; exact absurd h he
/-- what is read lies no deeper, is no more, and has no name twice, than may be -/
theorem sorts_ok {l : List UInt8} (h : (rdV l).2.2 = 0) : 1 ≤ cnt (rdV l).1 ∧ cnt (rdV l).1 ≤ 8192 ∧ dp (rdV l).1 1 ≤ 16 ∧ okV (rdV l).1 ∧ (rdV l).2.1 = 0 := by
  obtain ⟨h1, h2⟩ := rdV_ok h
  rw [h2] at h ⊢
  obtain ⟨p, h3, h4⟩ := rdT_ok h
  obtain ⟨_, _, a3, a4, a5, a6⟩ := (p_ok _ _ _).1 _ _ _ _ _ _ h3 (by omega)
  exact ⟨cnt_pos _, by omega, a5, a6, h4⟩
theorem sorts_bad {l : List UInt8} (h : (rdV l).2.2 ≠ 0) : (rdV l).1 = V0 ∧ 0 ≤ (rdV l).2.1 ∧ (rdV l).2.1 ≤ l.length := by
  unfold rdV at h ⊢
  by_cases he : (scnS l).2.2 = 0
  · rw [if_neg (by simpa using he)] at h ⊢
    obtain ⟨h1, ⟨n, h2⟩, _⟩ := rdT_bad h
    refine ⟨h1, ?_⟩
    rw [h2]
    rcases Nat.lt_or_ge n (scnS l).1.length with g | g
    · rw [tk_in g]
      obtain ⟨_, _, hs, _⟩ := scnS_Scan he
      obtain ⟨q, q1, _, q2, _⟩ := asc_at hs.asc n g
      rw [q1]
      omega
    · rw [tk_out g]
      simp only
      omega
  · rw [if_pos he]
    have := scnS_bad he
    exact ⟨rfl, this.2⟩

/-! ### white space around a text -/
theorem rdT_sh (ts : List Tok) (E : Int) (d : Nat) : rdT (ts.map (shT d)) (E + d) = ((rdT ts E).1, if (rdT ts E).2.2 = 0 then (rdT ts E).2.1 else (rdT ts E).2.1 + d, (rdT ts E).2.2) := by
  have ht : ∀ i, tk (ts.map (shT d)) (E + d) i = shT d (tk ts E i) := by
    intro i
    rcases Nat.lt_or_ge i ts.length with g | g
    · rw [tk_in g, tk_in (by rw [List.length_map]; exact g), List.getElem_map]
    · rw [tk_out g, tk_out (by rw [List.length_map]; exact g)]; rfl
  have hf : fuelOf (ts.map (shT d)) = fuelOf ts := by unfold fuelOf; rw [List.length_map]
  unfold rdT
  rw [hf, (p_sh ht (fuelOf ts)).1, List.length_map]
  rcases hv : pV ts E (fuelOf ts) 1 0 0 with ⟨a, y⟩ | ⟨v, i, p⟩
  · have := ((p_bad ts E (fuelOf ts)).1 _ _ _ _ _ hv).2
    simp only [Rs.sh]
    rw [if_neg]
    unfold why at this
    omega
  · simp only [Rs.sh]
    by_cases hi : i < ts.length
    · rw [if_pos hi, if_pos hi, ht, sh4]; rfl
    · rw [if_neg hi, if_neg hi]; rfl
theorem scn_white (g l : List UInt8) (hg : ∀ j, j < g.length → isW (byt g j) = true) (hs : g.length + l.length ≤ 65536) :
    scnS (g ++ l) = ((scnS l).1.map (shT g.length), if (scnS l).2.2 = 0 then (scnS l).2.1 else (scnS l).2.1 + (g.length : Int), (scnS l).2.2) := by
  have h1 := white_run l g [] hg
  rw [List.nil_append, List.length_nil, Nat.zero_add] at h1
  have h2 := scn_shift g l _ 0 (Nat.le_refl _)
  rw [Nat.add_zero] at h2
  have e : scnS l = scn l 0 := by rw [scnS, if_neg (by omega)]
  rw [scnS, if_neg (by rw [List.length_append]; omega), h1.scn, consR_nil, h2, e]
theorem white_plain (g l : List UInt8) (hg : ∀ j, j < g.length → isW (byt g j) = true) (hs : g.length + l.length ≤ 65536) :
    rdV (g ++ l) = ((rdV l).1, if (rdV l).2.2 = 0 then (rdV l).2.1 else (rdV l).2.1 + (g.length : Int), (rdV l).2.2) := by
  have hw := scn_white g l hg hs
  unfold rdV
  rcases hS : scnS l with ⟨ts, a, e⟩
  rw [hS] at hw
  simp only at hw
  rw [hw, List.length_append]
  by_cases he : e = 0
  · subst he
    simp only [ne_eq, not_true_eq_false, if_false]
    have := rdT_sh ts (l.length : Int) g.length
    rw [show ((g.length + l.length : Nat) : Int) = (l.length : Int) + (g.length : Nat) by omega]
    exact this
  · rw [if_neg he]
    simp only [ne_eq, he, not_false_eq_true, if_true, if_false]
/-- what is read doesn't hang on where the text ends -/
theorem rdT_end {ts : List Tok} {E : Int} (F : Int) (h : (rdT ts E).2.2 = 0) : rdT ts F = rdT ts E := by
  obtain ⟨p, h1, h2⟩ := rdT_ok h
  have h3 := (p_emb (ts := ts) (us := ts) (E := E) (F := F) (m := 0) (d0 := 0) (fun i hi => by rw [Nat.zero_add, tk_in hi, tk_in hi]; simp [shT]) (fuelOf ts) (fuelOf ts) (Nat.le_refl _)).1 _ _ _ _ _ _ h1 (by omega) 1 0 (by omega)
  obtain ⟨_, _, a3, a4, a5, _⟩ := (p_ok _ _ _).1 _ _ _ _ _ _ h1 (by omega)
  have hfit : fit (rdT ts E).1 1 0 = 0 := (fit_iff _ 1 0 (by omega)).1.2 ⟨a5, by omega⟩
  rcases h3 with ⟨_, h4⟩ | ⟨h4, _⟩
  · simp only [Nat.zero_add] at h4
    rw [rdT_of h4]
    rw [Prod.ext_iff, Prod.ext_iff]
    exact ⟨rfl, h2.symm, h.symm⟩
  · exact absurd hfit h4
theorem white_end {l : List UInt8} (c : UInt8) (hc : isW (c.toNat : Int) = true) (h : (rdV l).2.2 = 0) (hs : l.length + 1 ≤ 65536) : rdV (l ++ [c]) = rdV l := by
  obtain ⟨h1, h2⟩ := rdV_ok h
  obtain ⟨_, e1, h3, _⟩ := scnS_Scan h1
  have h4 := h3.loc (x := [c]) hc
  have h5 : stp (l ++ [c]) l.length = (none, ((l.length + 1 : Nat) : Int), 0) := by
    exact stp_W (by rw [Nu.byt_app_0]; exact hc)
  have h6 := h4.snoc (by rw [List.length_append]; simp) h5
  simp only [Option.toList_none, List.append_nil] at h6
  have h7 : scnS (l ++ [c]) = ((scnS l).1, 0, 0) := by
    rw [scnS, if_neg (by rw [List.length_append]; simp; omega), h6.scn, scn_end (by rw [List.length_append]; simp), consR, if_pos rfl, List.append_nil]
  rw [h2] at h
  have h8 := rdT_end ((l ++ [c]).length : Int) h
  rw [h2, rdV, h7]
  simp only [ne_eq, not_true_eq_false, if_false]
  exact h8
end Go.Proofs.Ytbepnjgbkfidiaa.Re
