import Derived.Test.YtbepnjgbkfidiaaEmPl
/- Plain facts on the texts of values of JSON: what is read of them. No run of the program in this text. -/
namespace Go.Proofs.Ytbepnjgbkfidiaa.Em
open Go.Proofs.Ytbepnjgbkfidiaa.Utf
open Go.Proofs.Ytbepnjgbkfidiaa.Sc
open Go.Proofs.Ytbepnjgbkfidiaa.Re
open Go.Proofs.Ytbepnjgbkfidiaa.Ch (qbL back_plain qbL_le)
open Go.Proofs.Ytbepnjgbkfidiaa.Nu

/-- a token's text, with what ends numbers and words behind it, is that token -/
theorem stp_wrE {t : Tok} {x : List UInt8} (h : okT t) (hx : endB (byt x 0)) : stp (wr t ++ x) 0 = (some (t.1, t.2.1, t.2.2.1, 0), ((wr t).length : Int), 0) ∧ 0 < (wr t).length := by
  obtain ⟨a, n, s, z⟩ := t
  have hn : isD (byt x 0) = false ∧ byt x 0 ≠ 46 ∧ byt x 0 ≠ 101 ∧ byt x 0 ≠ 69 ∧ isPart (byt x 0) = false := hx
  rcases h with ⟨h1, h2, c, h3, h4⟩ | ⟨h1, h2, i, hi, h3⟩ | ⟨h1, h2, h3⟩ | ⟨h1, h2, h3⟩
  · simp only at h1 h2 h3
    subst h1 h2 h3
    have hw : wr (1, 0, [c], z) = [c] := rfl
    rw [hw]
    refine ⟨?_, by simp⟩
    rw [stp_M (by exact h4)]
    rfl
  · simp only at h1 h2 h3
    subst h1 h2 h3
    have hw : wr (2, 0, wrds i, z) = wrds i := rfl
    have hl := (wrds_len i).1
    rw [hw]
    refine ⟨?_, by omega⟩
    rw [stp_wd hi (byt_app_l _ _ _ (by omega)), wrd, if_pos]
    · rw [Nat.zero_add]; rfl
    · refine ⟨by rw [List.drop_zero, List.take_left' rfl], ?_⟩
      rw [Nat.zero_add, byt_app_0]
      exact hn.2.2.2.2
  · simp only at h1 h2 h3
    subst h1 h3
    have hw : wr (3, n, [], z) = putL n := rfl
    have hm : maxN = 9007199254740991 := rfl
    have hl := (putL_len n).1
    rw [hw]
    refine ⟨?_, by omega⟩
    have hr := rd_put n (by omega) x hn.1
    rw [if_neg (by rintro (h | h | h | h); omega; exact hn.2.1 h; exact hn.2.2.1 h; exact hn.2.2.2.1 h)] at hr
    have h0 : isNm (byt (putL n ++ x) 0) = true := by
      rw [isNm_iff, byt_app_l _ _ _ (by omega)]
      unfold putL
      split
      · exact .inl rfl
      · exact .inr (digN_lo _ (by omega))
    have hr' : rdS (putL n ++ x) ((0 : Nat) : Int) = (n, ((putL n).length : Int), 0) := hr
    rw [stp_N h0, nmT, hr']
    rfl
  · simp only at h1 h2 h3
    subst h1 h2
    have hw : wr (4, 0, s, z) = 34 :: (qbL s ++ [34]) := rfl
    rw [hw]
    refine ⟨?_, by simp⟩
    have hb := back_plain [] x s h3
    rw [List.nil_append, List.length_nil] at hb
    rw [stp_T (by rfl), txT, hb]
    simp

/-- a token without its place -/
def st (t : Tok) : Int × Int × List UInt8 := (t.1, t.2.1, t.2.2.1)
def mk_ (c : UInt8) : Tok := (1, 0, [c], 0)
mutual
/-- a value's tokens -/
def tkV : V → List Tok
  | .mk k n s l ns ms => if k = 1 then [(2, 0, wNull, 0)] else if k = 2 then [(2, 0, if n = 1 then wTrue else wFalse, 0)] else if k = 3 then [(3, n, [], 0)] else if k = 4 then [(4, 0, s, 0)]
    else if k = 5 then mk_ 91 :: ((tkT l).drop 1 ++ [mk_ 93]) else mk_ 123 :: ((tkM ns ms).drop 1 ++ [mk_ 125])
def tkT : List V → List Tok
  | [] => []
  | v :: r => mk_ 44 :: (tkV v ++ tkT r)
def tkM : List (List UInt8) → List V → List Tok
  | _, [] => []
  | ns, v :: r => mk_ 44 :: (4, 0, ns.headD [], 0) :: mk_ 58 :: (tkV v ++ tkM ns.tail r)
end
/-- at a place of a text tokens stand, written as e -/
def ScanE (P e X : List UInt8) (us : List Tok) : Prop := ∃ ts, Scan (P ++ (e ++ X)) P.length ts (P.length + e.length) ∧ ts.map st = us.map st
theorem ScanE.trans {P e f X : List UInt8} {us vs : List Tok} (h1 : ScanE P e (f ++ X) us) (h2 : ScanE (P ++ e) f X vs) : ScanE P (e ++ f) X (us ++ vs) := by
  obtain ⟨ts, a, ha⟩ := h1
  obtain ⟨tt, b, hb⟩ := h2
  rw [show P ++ e ++ (f ++ X) = P ++ (e ++ (f ++ X)) by simp, List.length_append] at b
  refine ⟨ts ++ tt, ?_, by rw [List.map_append, List.map_append, ha, hb]⟩
  have := a.trans b
  rw [show P ++ (e ++ f ++ X) = P ++ (e ++ (f ++ X)) by simp, List.length_append, show P.length + (e.length + f.length) = P.length + e.length + f.length by omega]
  exact this
theorem ScanE.nil (P X : List UInt8) : ScanE P [] X [] := ⟨[], .nil _, rfl⟩
theorem scan_tok {t : Tok} (h : okT t) (P X : List UInt8) (hx : endB (byt X 0)) : ScanE P (wr t) X [t] := by
  obtain ⟨h1, h2⟩ := stp_wrE h hx
  have h3 := stp_shift P (wr t ++ X) 0 (by rw [List.length_append]; omega)
  rw [h1, Nat.add_zero] at h3
  refine ⟨[(t.1, t.2.1, t.2.2.1, (P.length : Int))], ?_, rfl⟩
  refine Scan.one (o := some (t.1, t.2.1, t.2.2.1, (P.length : Int))) (by simp only [List.length_append]; omega) (h3.trans ?_)
  simp [shT]
  omega
theorem scan_mk (c : UInt8) (hc : isMk (c.toNat : Int) = true) (P X : List UInt8) : ScanE P [c] X [mk_ c] := by
  have h1 := stp_M (l := [c] ++ X) (k := 0) (by show isMk (byt (c :: X) 0) = true; rw [byt_cons_0]; exact hc)
  have h3 := stp_shift P ([c] ++ X) 0 (by simp)
  rw [h1, Nat.add_zero] at h3
  refine ⟨[(1, 0, [c], (P.length : Int))], ?_, rfl⟩
  refine Scan.one (o := some (1, 0, [c], (P.length : Int))) (by simp) (h3.trans ?_)
  simp [shT]
  omega
theorem endB_cons {c : UInt8} {r : List UInt8} (h : endB (c.toNat : Int)) : endB (byt (c :: r) 0) := by rw [byt_cons_0]; exact h
theorem e44 : endB ((44 : UInt8).toNat : Int) := by unfold endB; decide
theorem e93 : endB ((93 : UInt8).toNat : Int) := by unfold endB; decide
theorem e125 : endB ((125 : UInt8).toNat : Int) := by unfold endB; decide
theorem e58 : endB ((58 : UInt8).toNat : Int) := by unfold endB; decide
theorem e_nil : endB (byt [] 0) := by unfold endB; decide
theorem endT (l : List V) {X : List UInt8} (h : endB (byt X 0)) : endB (byt (emT l ++ X) 0) := by
  cases l with
  | nil => exact h
  | cons v r => rw [emT]; exact endB_cons e44
theorem endM (ns : List (List UInt8)) (l : List V) {X : List UInt8} (h : endB (byt X 0)) : endB (byt (emM ns l ++ X) 0) := by
  cases l with
  | nil => rw [emM]; exact h
  | cons v r => rw [emM]; exact endB_cons e44
mutual
theorem scan_V : ∀ (v : V), allV v → lenV v → okW v → ∀ (P X : List UInt8), endB (byt X 0) → ScanE P (emV v) X (tkV v)
  | .mk k n s l ns ms, h, hl, hw, P, X, hx => by
    rw [allV] at h
    rw [lenV] at hl
    rw [okW] at hw
    obtain ⟨⟨⟨⟨k1, k2⟩, ho1, ho2, ho3, ho4⟩, o2, o3, o4, o6⟩, ha, hm⟩ := h
    rw [emV, tkV]
    by_cases c1 : k = 1
    · rw [if_pos c1, if_pos c1]
      exact scan_tok (t := (2, 0, wNull, 0)) (.inr (.inl ⟨rfl, rfl, 2, by omega, rfl⟩)) P X hx
    rw [if_neg c1, if_neg c1]
    by_cases c2 : k = 2
    · rw [if_pos c2, if_pos c2]
      by_cases hn : n = 1
      · rw [if_pos hn]; exact scan_tok (t := (2, 0, wTrue, 0)) (.inr (.inl ⟨rfl, rfl, 0, by omega, rfl⟩)) P X hx
      · rw [if_neg hn]; exact scan_tok (t := (2, 0, wFalse, 0)) (.inr (.inl ⟨rfl, rfl, 1, by omega, rfl⟩)) P X hx
    rw [if_neg c2, if_neg c2]
    by_cases c3 : k = 3
    · rw [if_pos c3, if_pos c3]
      have := o3 c3
      exact scan_tok (t := (3, n, [], 0)) (.inr (.inr (.inl ⟨rfl, by show n.natAbs ≤ 9007199254740991; omega, rfl⟩))) P X hx
    rw [if_neg c3, if_neg c3]
    by_cases c4 : k = 4
    · rw [if_pos c4, if_pos c4]
      exact scan_tok (t := (4, 0, s, 0)) (.inr (.inr (.inr ⟨rfl, rfl, o4 c4⟩))) P X hx
    rw [if_neg c4, if_neg c4]
    by_cases c5 : k = 5
    · rw [if_pos c5, if_pos c5]
      exact (scan_mk 91 (by decide) P _).trans (((scan_T l ha hl.2.1 hw.2.2.1 (P ++ [91]) (93 :: X) (endB_cons e93)).2).trans (scan_mk 93 (by decide) _ X))
    · rw [if_neg c5, if_neg c5]
      exact (scan_mk 123 (by decide) P _).trans (((scan_M ms ns hl.1 hm hl.2.2 hw.2.2.2 hw.2.1 (P ++ [123]) (125 :: X) (endB_cons e125)).2).trans (scan_mk 125 (by decide) _ X))
theorem scan_T : ∀ (l : List V), allL l → lenL l → okWL l → ∀ (P X : List UInt8), endB (byt X 0) → ScanE P (emT l) X (tkT l) ∧ ScanE P ((emT l).drop 1) X ((tkT l).drop 1)
  | [], _, _, _, P, X, _ => by rw [emT, tkT]; exact ⟨.nil P X, .nil P X⟩
  | v :: r, h, hl, hw, P, X, hx => by
    rw [allL] at h
    rw [lenL] at hl
    rw [okWL] at hw
    have key : ∀ P, ScanE P (emV v ++ emT r) X (tkV v ++ tkT r) := fun P => (scan_V v h.1 hl.1 hw.1 P (emT r ++ X) (endT r hx)).trans (scan_T r h.2 hl.2 hw.2 _ X hx).1
    rw [emT, tkT]
    exact ⟨(scan_mk 44 (by decide) P _).trans (key _), key P⟩
theorem scan_M : ∀ (ms : List V) (ns : List (List UInt8)), ns.length = ms.length → allL ms → lenL ms → okWL ms → (∀ x ∈ ns, okS x) → ∀ (P X : List UInt8), endB (byt X 0) → ScanE P (emM ns ms) X (tkM ns ms) ∧ ScanE P ((emM ns ms).drop 1) X ((tkM ns ms).drop 1)
  | [], ns, _, _, _, _, _, P, X, _ => by rw [emM, tkM]; exact ⟨.nil P X, .nil P X⟩
  | v :: r, ns, hn, h, hl, hw, hs, P, X, hx => by
    rw [allL] at h
    rw [lenL] at hl
    rw [okWL] at hw
    cases ns with
    | nil => simp at hn
    | cons x ns =>
      have key : ∀ P, ScanE P (qt x ++ 58 :: (emV v ++ emM ns r)) X ((4, 0, x, 0) :: mk_ 58 :: (tkV v ++ tkM ns r)) := fun P => by
        have a := scan_tok (t := (4, 0, x, 0)) (.inr (.inr (.inr ⟨rfl, rfl, hs x (by simp)⟩))) P (58 :: (emV v ++ emM ns r) ++ X) (endB_cons e58)
        have b := scan_mk 58 (by decide) (P ++ qt x) ((emV v ++ emM ns r) ++ X)
        have c := (scan_V v h.1 hl.1 hw.1 (P ++ qt x ++ [58]) (emM ns r ++ X) (endM ns r hx)).trans (scan_M r ns (by simpa using hn) h.2 hl.2 hw.2 (fun y hy => hs y (by simp [hy])) _ X hx).1
        exact ScanE.trans (e := qt x) a (b.trans c)
      rw [emM, tkM]
      exact ⟨(scan_mk 44 (by decide) P _).trans (key _), key P⟩
end

/-! ### what is read of a value's tokens -/
/-- from one on these tokens stand, but for their places -/
def atT (ts : List Tok) (E : Int) : Nat → List Tok → Prop
  | _, [] => True
  | i, t :: r => st (tk ts E i) = st t ∧ atT ts E (i + 1) r
theorem atT_app {ts : List Tok} {E : Int} : ∀ (a b : List Tok) (i : Nat), atT ts E i (a ++ b) ↔ atT ts E i a ∧ atT ts E (i + a.length) b := by
  intro a b
  induction a with
  | nil => intro i; simp [atT]
  | cons t r ih =>
    intro i
    rw [List.cons_append, atT, atT, ih, List.length_cons, show i + 1 + r.length = i + (r.length + 1) by omega, and_assoc]
theorem atT_of {E : Int} : ∀ (us ts pre : List Tok), ts.map st = us.map st → atT (pre ++ ts) E pre.length us := by
  intro us
  induction us with
  | nil => intro ts pre _; rw [atT]; trivial
  | cons u r ih =>
    intro ts pre h
    cases ts with
    | nil => simp at h
    | cons t ts =>
      simp only [List.map_cons, List.cons.injEq] at h
      rw [atT]
      refine ⟨?_, ?_⟩
      · rw [tk_in (by simp), ← h.1]
        congr 1
        simp
      · have := ih ts (pre ++ [t]) h.2
        rw [List.append_assoc, List.length_append] at this
        exact this
theorem st_isM {t : Tok} {c : UInt8} (h : st t = st (mk_ c)) (e : UInt8) : isM t e = decide (c = e) := by
  unfold st mk_ at h
  simp only [Prod.mk.injEq] at h
  unfold isM
  rw [h.1, h.2.2]
  simp
theorem st_eq {t u : Tok} (h : st t = st u) : t.1 = u.1 ∧ t.2.1 = u.2.1 ∧ t.2.2.1 = u.2.2.1 := by
  unfold st at h
  simp only [Prod.mk.injEq] at h
  exact h
theorem own_l {k n : Int} {s : List UInt8} {l ms : List V} {ns : List (List UInt8)} (h : own k n s l.length ns ms.length) (hk : k ≠ 5) : l = [] := List.eq_nil_of_length_eq_zero (h.1.2.2.2.1 hk)
theorem own_m {k n : Int} {s : List UInt8} {l ms : List V} {ns : List (List UInt8)} (h : own k n s l.length ns ms.length) (hk : k ≠ 6) : ms = [] := List.eq_nil_of_length_eq_zero (h.1.2.2.2.2 hk)
mutual
theorem tkV_len : ∀ v : V, allV v → lenV v → cnt v ≤ (tkV v).length
  | .mk k n s l ns ms, h, hl => by
    rw [allV] at h
    rw [lenV] at hl
    obtain ⟨ho, ha, hm⟩ := h
    rw [tkV, cnt]
    by_cases c5 : k = 5
    · have e := own_m ho (by omega)
      subst e
      rw [if_neg (by omega), if_neg (by omega), if_neg (by omega), if_neg (by omega), if_pos c5, cntL]
      have := tkT_len l ha hl.2.1
      simp only [List.length_cons, List.length_append, List.length_drop, List.length_nil]
      omega
    · have e := own_l ho c5
      subst e
      by_cases c6 : k = 6
      · rw [if_neg (by omega), if_neg (by omega), if_neg (by omega), if_neg (by omega), if_neg c5, cntL]
        have := tkM_len ms ns hl.1 hm hl.2.2
        simp only [List.length_cons, List.length_append, List.length_drop, List.length_nil]
        omega
      · have e := own_m ho c6
        subst e
        rw [cntL]
        have := ho.1.1
        by_cases c1 : k = 1
        · rw [if_pos c1]; simp
        by_cases c2 : k = 2
        · rw [if_neg c1, if_pos c2]; simp
        by_cases c3 : k = 3
        · rw [if_neg c1, if_neg c2, if_pos c3]; simp
        rw [if_neg c1, if_neg c2, if_neg c3, if_pos (by omega)]; simp
theorem tkT_len : ∀ l : List V, allL l → lenL l → cntL l + l.length ≤ (tkT l).length
  | [], _, _ => by rw [tkT, cntL]; simp
  | v :: r, h, hl => by
    rw [allL] at h
    rw [lenL] at hl
    have a := tkV_len v h.1 hl.1
    have b := tkT_len r h.2 hl.2
    rw [tkT, cntL]
    simp only [List.length_cons, List.length_append]
    omega
theorem tkM_len : ∀ (l : List V) (ns : List (List UInt8)), ns.length = l.length → allL l → lenL l → cntL l + l.length ≤ (tkM ns l).length
  | [], ns, _, _, _ => by rw [tkM, cntL]; simp
  | v :: r, ns, hn, h, hl => by
    rw [allL] at h
    rw [lenL] at hl
    cases ns with
    | nil => simp at hn
    | cons x ns =>
      have a := tkV_len v h.1 hl.1
      have b := tkM_len r ns (by simpa using hn) h.2 hl.2
      rw [tkM, cntL]
      simp only [List.length_cons, List.length_append, List.tail_cons]
      omega
end
theorem wdV_null : wdV wNull = .mk 1 0 [] [] [] [] := rfl
theorem wdV_true : wdV wTrue = .mk 2 1 [] [] [] [] := rfl
theorem wdV_false : wdV wFalse = .mk 2 0 [] [] [] [] := rfl
theorem badV_of {t u : Tok} (h : st t = st u) : badV t = badV u := by
  obtain ⟨a, _, b⟩ := st_eq h
  unfold badV
  rw [a, b]
mutual
theorem pV_tk : ∀ (v : V), allV v → lenV v → ∀ (ts : List Tok) (E : Int) (f d i p : Nat), 2 * cnt v ≤ f → dp v d ≤ 16 → p + cnt v ≤ 8192 → atT ts E i (tkV v) →
    pV ts E f d i p = .ok v (i + (tkV v).length) (p + cnt v)
  | .mk k n s l ns ms, h, hl, ts, E, f, d, i, p, hf, hd, hp, hat => by
    rw [allV] at h
    rw [lenV] at hl
    obtain ⟨ho, ha, hm⟩ := h
    rw [cnt] at hf hp ⊢
    rw [dp] at hd
    obtain ⟨f, rfl⟩ : ∃ g, f = g + 1 := ⟨f - 1, by omega⟩
    have k1 := ho.1.1
    rw [tkV] at hat ⊢
    by_cases c5 : k = 5
    · have e := own_m ho (by omega)
      subst e
      have e := List.eq_nil_of_length_eq_zero (by have := hl.1; simpa using this : ns.length = 0)
      subst e
      have en := ho.1.2.1 (by omega)
      have es := ho.1.2.2.1 (by omega)
      subst c5 en es
      simp only [show ¬ (5 : Int) = 1 by decide, show ¬ (5 : Int) = 2 by decide, show ¬ (5 : Int) = 3 by decide, show ¬ (5 : Int) = 4 by decide, if_false, if_true] at hat ⊢
      rw [atT, atT_app] at hat
      obtain ⟨h0, h1, h2⟩ := hat
      have hz := st_eq h0
      have hb : badV (tk ts E i) = false := (badV_of h0).trans (by decide)
      rw [pV_list hb (by omega) (by omega) hz.1 hz.2.2, gL]
      rw [cntL] at *
      cases l with
      | nil =>
        rw [tkT] at h2 ⊢
        rw [atT] at h2
        rw [if_pos (by rw [st_isM (by simpa using h2.1)]; rfl)]
        simp [cntL, Rs.map, lsV]
      | cons v r =>
        have hfst : ∃ t u, tkV v = t :: u ∧ isM t 93 = false := tkV_hd v (by rw [allL] at ha; exact ha.1)
        obtain ⟨t, u, htu, hm93⟩ := hfst
        have hn : isM (tk ts E (i + 1)) 93 = false := by
          rw [tkT, List.drop_one, List.tail_cons, htu, List.cons_append, atT] at h1
          rw [← hm93]
          have := st_eq h1.1
          unfold isM
          rw [this.1, this.2.2]
        rw [if_neg (by rw [hn]; decide), if_pos rfl]
        rw [pL_tk (v :: r) ha hl.2.1 (by simp) ts E f d (i + 1) (p + 1) (by omega) (by omega) (by omega) (by rw [atT_app]; exact ⟨h1, h2⟩)]
        simp only [Rs.map, lsV, List.length_cons, List.length_append, List.length_nil, Rs.ok.injEq, true_and]
        omega
    · have e := own_l ho c5
      subst e
      by_cases c6 : k = 6
      · have en := ho.1.2.1 (by omega)
        have es := ho.1.2.2.1 (by omega)
        subst c6 en es
        simp only [show ¬ (6 : Int) = 1 by decide, show ¬ (6 : Int) = 2 by decide, show ¬ (6 : Int) = 3 by decide, show ¬ (6 : Int) = 4 by decide, show ¬ (6 : Int) = 5 by decide, if_false] at hat ⊢
        rw [atT, atT_app] at hat
        obtain ⟨h0, h1, h2⟩ := hat
        have hz := st_eq h0
        have hb : badV (tk ts E i) = false := (badV_of h0).trans (by decide)
        rw [pV_map hb (by omega) (by omega) hz.1 (by rw [hz.2.2]; decide), gM]
        rw [cntL] at *
        have hcm := cntL_ge ms
        have hno := ho.2.2.2.2 rfl (by omega)
        cases ms with
        | nil =>
          have e := List.eq_nil_of_length_eq_zero (by have := hl.1; simpa using this : ns.length = 0)
          subst e
          rw [tkM] at h2 ⊢
          rw [atT] at h2
          rw [if_pos (by rw [st_isM (by simpa using h2.1)]; rfl)]
          simp [cntL, Rs.map, mpV]
        | cons v r =>
          have hn : isM (tk ts E (i + 1)) 125 = false := by
            rw [tkM, List.drop_one, List.tail_cons, atT] at h1
            have := st_eq h1.1
            unfold isM
            rw [this.1]
            simp
          rw [if_neg (by rw [hn]; decide), if_pos rfl]
          rw [pM_tk (v :: r) ns hl.1 hm hl.2.2 (by simp) ts E f d (i + 1) (p + 1) [] (by omega) (by omega) (by omega) (by simpa using hno.2) (by rw [atT_app]; exact ⟨h1, h2⟩)]
          simp only [Rs.map, mpV, List.length_cons, List.length_append, List.length_nil, Rs.ok.injEq, true_and]
          omega
      · have e := own_m ho c6
        subst e
        have e := List.eq_nil_of_length_eq_zero (by have := hl.1; simpa using this : ns.length = 0)
        subst e
        simp only [cntL] at *
        rw [pV]
        by_cases c1 : k = 1
        · have en := ho.1.2.1 (by omega)
          have es := ho.1.2.2.1 (by omega)
          subst c1 en es
          simp only [if_true] at hat ⊢
          rw [atT] at hat
          have hz := st_eq hat.1
          have hb : badV (tk ts E i) = false := (badV_of hat.1).trans (by decide)
          simp only at hz
          rw [if_neg (by rw [hb]; decide), if_neg (by omega), if_neg (by omega), if_neg (by rw [hz.1]; decide), if_neg (by rw [hz.1]; decide), if_pos hz.1, hz.2.2, wdV_null]
          simp
        by_cases c2 : k = 2
        · have es := ho.1.2.2.1 (by omega)
          have en := ho.2.1 c2
          subst c2 es
          simp only [show ¬ (2 : Int) = 1 by decide, if_false, if_true] at hat ⊢
          rw [atT] at hat
          have hz := st_eq hat.1
          have hb : badV (tk ts E i) = false := (badV_of hat.1).trans (by rcases en with rfl | rfl <;> decide)
          simp only at hz
          rw [if_neg (by rw [hb]; decide), if_neg (by omega), if_neg (by omega), if_neg (by rw [hz.1]; decide), if_neg (by rw [hz.1]; decide), if_pos hz.1, hz.2.2]
          rcases en with rfl | rfl
          · rw [if_neg (by decide), wdV_false]; simp
          · rw [if_pos rfl, wdV_true]; simp
        by_cases c3 : k = 3
        · have es := ho.1.2.2.1 (by omega)
          subst c3 es
          simp only [show ¬ (3 : Int) = 1 by decide, show ¬ (3 : Int) = 2 by decide, if_false, if_true] at hat ⊢
          rw [atT] at hat
          have hz := st_eq hat.1
          have hb : badV (tk ts E i) = false := by unfold badV; rw [hz.1]; simp
          simp only at hz
          rw [if_neg (by rw [hb]; decide), if_neg (by omega), if_neg (by omega), if_neg (by rw [hz.1]; decide), if_pos hz.1, hz.2.1]
          simp [nmV]
        have c4 : k = 4 := by omega
        · have en := ho.1.2.1 (by omega)
          subst c4 en
          simp only [show ¬ (4 : Int) = 1 by decide, show ¬ (4 : Int) = 2 by decide, show ¬ (4 : Int) = 3 by decide, if_false, if_true] at hat ⊢
          rw [atT] at hat
          have hz := st_eq hat.1
          have hb : badV (tk ts E i) = false := by unfold badV; rw [hz.1]; simp
          simp only at hz
          rw [if_neg (by rw [hb]; decide), if_neg (by omega), if_neg (by omega), if_pos hz.1, hz.2.2]
          simp [txV]
theorem pL_tk : ∀ (l : List V), allL l → lenL l → l ≠ [] → ∀ (ts : List Tok) (E : Int) (f d i p : Nat), 2 * cntL l + 1 ≤ f → dpL l (d + 1) ≤ 16 → p + cntL l ≤ 8192 → atT ts E i ((tkT l).drop 1 ++ [mk_ 93]) →
    pL ts E f d i p = .ok l (i + ((tkT l).drop 1).length + 1) (p + cntL l)
  | [], _, _, hne, _, _, _, _, _, _, _, _, _, _ => absurd rfl hne
  | v :: r, h, hl, _, ts, E, f, d, i, p, hf, hd, hp, hat => by
    rw [allL] at h
    rw [lenL] at hl
    rw [cntL] at hf hp ⊢
    rw [dpL] at hd
    obtain ⟨f, rfl⟩ : ∃ g, f = g + 1 := ⟨f - 1, by omega⟩
    rw [tkT, List.drop_one, List.tail_cons] at hat ⊢
    rw [List.append_assoc, atT_app] at hat
    have a := pV_tk v h.1 hl.1 ts E f (d + 1) i p (by omega) (by omega) (by omega) hat.1
    rw [pL, a]
    simp only
    cases r with
    | nil =>
      have h2 := hat.2
      rw [tkT, List.nil_append, atT] at h2
      rw [if_pos (by rw [st_isM h2.1]; rfl), tkT, cntL]
      simp
    | cons w r =>
      have h2 := hat.2
      rw [tkT, List.cons_append, atT] at h2
      have b := pL_tk (w :: r) h.2 hl.2 (by simp) ts E f d (i + (tkV v).length + 1) (p + cnt v) (by have := cnt_pos v; omega) (by omega) (by omega) (by rw [tkT, List.drop_one, List.tail_cons]; exact h2.2)
      rw [if_neg (by rw [st_isM h2.1]; decide), if_pos (by rw [st_isM h2.1]; rfl), b]
      rw [tkT, List.drop_one, List.tail_cons]
      simp only [Rs.map, List.length_append, List.length_cons, Rs.ok.injEq, true_and]
      omega
theorem pM_tk : ∀ (ms : List V) (ns : List (List UInt8)), ns.length = ms.length → allL ms → lenL ms → ms ≠ [] → ∀ (ts : List Tok) (E : Int) (f d i p : Nat) (acc : List (List UInt8)), 2 * cntL ms + 1 ≤ f → dpL ms (d + 1) ≤ 16 → p + cntL ms ≤ 8192 → (acc ++ ns).Nodup →
    atT ts E i ((tkM ns ms).drop 1 ++ [mk_ 125]) → pM ts E f d i p acc = .ok (ns, ms) (i + ((tkM ns ms).drop 1).length + 1) (p + cntL ms)
  | [], _, _, _, _, hne, _, _, _, _, _, _, _, _, _, _, _, _ => absurd rfl hne
  | v :: r, [], hn, _, _, _, _, _, _, _, _, _, _, _, _, _, _, _ => by simp at hn
  | v :: r, x :: ns, hn, h, hl, _, ts, E, f, d, i, p, acc, hf, hd, hp, hnd, hat => by
    rw [allL] at h
    rw [lenL] at hl
    rw [cntL] at hf hp ⊢
    rw [dpL] at hd
    obtain ⟨f, rfl⟩ : ∃ g, f = g + 1 := ⟨f - 1, by omega⟩
    rw [tkM, List.drop_one, List.tail_cons] at hat ⊢
    simp only [List.headD_cons, List.tail_cons] at hat ⊢
    rw [List.cons_append, List.cons_append, atT, atT, List.append_assoc, atT_app] at hat
    obtain ⟨h0, h1, h2, h3⟩ := hat
    have z0 := st_eq h0
    have a := pV_tk v h.1 hl.1 ts E f (d + 1) (i + 1 + 1) p (by omega) (by omega) (by omega) h2
    have hx : x ∉ acc := fun hx => by
      rw [List.nodup_append] at hnd
      exact hnd.2.2 x hx x (by simp) rfl
    rw [pM, if_neg (by rw [z0.1]; simp), if_neg (by rw [z0.2.2]; exact hx), if_neg (by rw [st_isM h1]; decide), a]
    simp only
    have hn' : ns.length = r.length := by simpa using hn
    cases r with
    | nil =>
      have e := List.eq_nil_of_length_eq_zero (by simpa using hn' : ns.length = 0)
      subst e
      rw [tkM, List.nil_append, atT] at h3
      rw [if_pos (by rw [st_isM h3.1]; rfl), tkM, cntL, z0.2.2]
      simp
      omega
    | cons w r =>
      cases ns with
      | nil => simp at hn'
      | cons y ns =>
        rw [tkM] at h3
        rw [List.cons_append, atT] at h3
        have b := pM_tk (w :: r) (y :: ns) hn' h.2 hl.2 (by simp) ts E f d (i + 1 + 1 + (tkV v).length + 1) (p + cnt v) (acc ++ [x]) (by have := cnt_pos v; omega) (by omega) (by omega) (by simpa using hnd) (by rw [tkM, List.drop_one, List.tail_cons]; exact h3.2)
        rw [if_neg (by rw [st_isM h3.1]; decide), if_pos (by rw [st_isM h3.1]; rfl), z0.2.2]
        simp only
        rw [b]
        rw [tkM, List.drop_one, List.tail_cons]
        simp only [Rs.map, List.length_append, List.length_cons, Rs.ok.injEq, true_and]
        omega
theorem tkV_hd : ∀ v : V, allV v → ∃ t u, tkV v = t :: u ∧ isM t 93 = false
  | .mk k n s l ns ms, h => by
    rw [allV] at h
    rw [tkV]
    split
    · exact ⟨_, _, rfl, by decide⟩
    split
    · exact ⟨_, _, rfl, by simp [isM]⟩
    split
    · exact ⟨_, _, rfl, by simp [isM]⟩
    split
    · exact ⟨_, _, rfl, by simp [isM]⟩
    split
    · exact ⟨_, _, rfl, by decide⟩
    · exact ⟨_, _, rfl, by decide⟩
end
end Go.Proofs.Ytbepnjgbkfidiaa.Em
