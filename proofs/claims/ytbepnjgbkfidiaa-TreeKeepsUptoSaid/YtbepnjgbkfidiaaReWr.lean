import Derived.Test.YtbepnjgbkfidiaaRePl5
/- What is read of a text within a list, and within a map. No run of the program in this text. -/
namespace Go.Proofs.Ytbepnjgbkfidiaa.Sc
open Go.Proofs.Ytbepnjgbkfidiaa.Utf
open Go.Proofs.Ytbepnjgbkfidiaa.Ch (readS readS_in readS_out readL readL_facts begins_plain again_plain back_plain bad_plain qbL)
open Go.Proofs.Ytbepnjgbkfidiaa.Nu

/-- a byte that ends a number, and a word -/
def endB (c : Int) : Prop := isD c = false ∧ c ≠ 46 ∧ c ≠ 101 ∧ c ≠ 69 ∧ isPart c = false
theorem wrd_locE {l x : List UInt8} {k : Nat} {w : List UInt8} {o : Option Tok} {m : Int} (hw : w ≠ []) (h : wrd l k w = (o, m, 0)) (hx : endB (byt x 0)) : wrd (l ++ x) k w = (o, m, 0) := by
  obtain ⟨m', e1, e2, e3⟩ := wrd_ok_le hw (by rw [h])
  unfold wrd at h
  by_cases hh : hasW l k w
  · rw [if_pos hh] at h
    have e4 : ((k + w.length : Nat) : Int) = m := congrArg (fun x => x.2.1) h
    unfold wrd at e1
    rw [if_pos hh] at e1
    simp only at e1
    obtain ⟨h1, h2⟩ := hh
    unfold wrd
    rw [if_pos ?_, h]
    refine ⟨?_, ?_⟩
    · rw [List.drop_append_of_le_length (by omega), List.take_append_of_le_length (by rw [List.length_drop]; omega)]
      exact h1
    · rcases Nat.lt_or_ge (k + w.length) l.length with g | g
      · rw [byt_app_l _ _ _ g]; exact h2
      · rw [show k + w.length = l.length by omega, byt_app_0]; exact hx.2.2.2.2
  · rw [if_neg hh] at h
    exact absurd (congrArg (fun x => x.2.2) h) (by simp)
theorem rdS_locE {l x : List UInt8} {k : Nat} (hk : k < l.length) (h : (rdS l k).2.2 = 0) (hx : endB (byt x 0)) : rdS (l ++ x) k = rdS l k := by
  have e1 : rdS (l ++ x) (k : Int) = rdN (l ++ x) k := by rw [rdS, if_neg (by rw [List.length_append]; omega), Int.toNat_natCast]
  have e2 : rdS l k = rdN l k := by rw [rdS, if_neg (by omega), Int.toNat_natCast]
  rw [e2] at h
  have hb : ¬ badN l (fstN l k) (runL l (fstN l k)) := by
    intro hb
    unfold rdN at h
    rw [if_pos hb] at h
    simp at h
  have hf : fstN (l ++ x) k = fstN l k := by unfold fstN; rw [byt_app_l _ _ _ hk]
  have hfl := (fst_le l k hk).2
  have hrl := runL_le l (fstN l k) hfl
  have hd := (digsK_iff _ _ _).1 (runL_digs l (fstN l k))
  have hs := runL_stop l (fstN l k)
  have hnot := hx
  have hlast : isD (byt (l ++ x) (fstN l k + runL l (fstN l k))) = false ∧ (byt (l ++ x) (fstN l k + runL l (fstN l k)) = byt l (fstN l k + runL l (fstN l k)) ∨ (byt (l ++ x) (fstN l k + runL l (fstN l k)) ≠ 46 ∧ byt (l ++ x) (fstN l k + runL l (fstN l k)) ≠ 101 ∧ byt (l ++ x) (fstN l k + runL l (fstN l k)) ≠ 69)) := by
    rcases Nat.lt_or_ge (fstN l k + runL l (fstN l k)) l.length with g | g
    · rw [byt_app_l _ _ _ g]; exact ⟨hs, .inl rfl⟩
    · rw [show fstN l k + runL l (fstN l k) = l.length by omega, byt_app_0]
      exact ⟨hnot.1, .inr ⟨hnot.2.1, hnot.2.2.1, hnot.2.2.2.1⟩⟩
  have hr : runL (l ++ x) (fstN l k) = runL l (fstN l k) := by
    refine runL_eq ((digsK_iff _ _ _).2 fun j hj => ?_) hlast.1
    have := hd j hj
    rw [byt_app_l _ _ _ (isD_in this)]
    exact this
  have ha : accD (l ++ x) (fstN l k) (runL l (fstN l k)) = accD l (fstN l k) (runL l (fstN l k)) := accD_app _ _ _ _ hrl
  have hr0 : runL l (fstN l k) ≠ 0 := fun h => hb (.inl h)
  have hfb : byt (l ++ x) (fstN l k) = byt l (fstN l k) := byt_app_l _ _ _ (by omega)
  have hb2 : ¬ badN (l ++ x) (fstN l k) (runL l (fstN l k)) := by
    unfold badN at hb ⊢
    rw [ha, hfb]
    omega
  rw [e1, e2]
  unfold rdN
  rw [hf, hr, ha, if_neg hb2, if_neg hb, byt_app_l _ _ _ hk]
theorem stp_locE {l x : List UInt8} {k : Nat} {o : Option Tok} {m : Int} (hk : k < l.length) (h : stp l k = (o, m, 0)) (hx : endB (byt x 0)) : stp (l ++ x) k = (o, m, 0) := by
  have hb : byt (l ++ x) k = byt l k := byt_app_l _ _ _ hk
  have hg : (l ++ x).getD k 0 = l.getD k 0 := by
    rw [List.getD_eq_getElem?_getD, List.getD_eq_getElem?_getD, List.getElem?_append_left hk]
  unfold stp at h ⊢
  rw [hb, hg]
  by_cases c1 : isW (byt l k) = true
  · rw [if_pos c1] at h ⊢; exact h
  rw [if_neg c1] at h ⊢
  by_cases c2 : isMk (byt l k) = true
  · rw [if_pos c2] at h ⊢; exact h
  rw [if_neg c2] at h ⊢
  by_cases c3 : byt l k = 34
  · rw [if_pos c3] at h ⊢
    unfold txT at h ⊢
    by_cases he : (readS l k).2.2 = 0
    · rcases hr : readS l k with ⟨t, n, e⟩
      rw [hr] at he
      simp only at he
      subst he
      have h1 := (begins_plain l (l.drop n.toNat ++ x) k t n hr).1
      rw [← List.append_assoc, List.take_append_drop] at h1
      rw [h1]
      rw [hr] at h
      exact h
    · rw [if_neg he] at h
      exact absurd (congrArg (fun x => x.2.2) h) he
  rw [if_neg c3] at h ⊢
  by_cases c4 : isNm (byt l k) = true
  · rw [if_pos c4] at h ⊢
    unfold nmT at h ⊢
    by_cases he : (rdS l k).2.2 = 0
    · rw [rdS_locE hk he hx]; exact h
    · rw [if_neg he] at h
      exact absurd (congrArg (fun x => x.2.2) h) he
  rw [if_neg c4] at h ⊢
  by_cases c5 : byt l k = 116
  · rw [if_pos c5] at h ⊢; exact wrd_locE (by decide) h hx
  rw [if_neg c5] at h ⊢
  by_cases c6 : byt l k = 102
  · rw [if_pos c6] at h ⊢; exact wrd_locE (by decide) h hx
  rw [if_neg c6] at h ⊢
  by_cases c7 : byt l k = 110
  · rw [if_pos c7] at h ⊢; exact wrd_locE (by decide) h hx
  rw [if_neg c7] at h ⊢
  exact h
theorem Scan.locE {l x : List UInt8} {k m : Nat} {ts : List Tok} (h : Scan l k ts m) (hx : endB (byt x 0)) : Scan (l ++ x) k ts m := by
  induction h with
  | nil k => exact .nil k
  | cons hk hs _ ih => exact .cons (by rw [List.length_append]; omega) (stp_locE hk hs hx) ih


/-- marks and texts, whatever stands behind them -/
theorem stp_ext {l x : List UInt8} {k : Nat} {o : Option Tok} {m : Int} (hk : k < l.length) (h : stp l k = (o, m, 0)) (hc : isMk (byt l k) = true ∨ byt l k = 34) : stp (l ++ x) k = (o, m, 0) := by
  have hb : byt (l ++ x) k = byt l k := byt_app_l _ _ _ hk
  have hg : (l ++ x).getD k 0 = l.getD k 0 := by
    rw [List.getD_eq_getElem?_getD, List.getD_eq_getElem?_getD, List.getElem?_append_left hk]
  unfold stp at h ⊢
  rw [hb, hg]
  by_cases c1 : isW (byt l k) = true
  · rw [if_pos c1] at h ⊢; exact h
  rw [if_neg c1] at h ⊢
  by_cases c2 : isMk (byt l k) = true
  · rw [if_pos c2] at h ⊢; exact h
  rw [if_neg c2] at h ⊢
  have c3 : byt l k = 34 := by rcases hc with hc | hc; exact absurd hc c2; exact hc
  rw [if_pos c3] at h ⊢
  unfold txT at h ⊢
  by_cases he : (readS l k).2.2 = 0
  · rcases hr : readS l k with ⟨t, n, e⟩
    rw [hr] at he
    simp only at he
    subst he
    have h1 := (begins_plain l (l.drop n.toNat ++ x) k t n hr).1
    rw [← List.append_assoc, List.take_append_drop] at h1
    rw [h1]
    rw [hr] at h
    exact h
  · rw [if_neg he] at h
    exact absurd (congrArg (fun x => x.2.2) h) he
/-- the tokens of a text with a row ahead of it, and a mark behind it -/
theorem scn_wrap (P l : List UInt8) (c : UInt8) (pt : List Tok) (hP : ∀ x, Scan (P ++ x) 0 pt P.length) (hc : endB (c.toNat : Int)) (hm : isMk (c.toNat : Int) = true) (hl : (scnS l).2.2 = 0) (hs : P.length + l.length + 1 ≤ 65536) :
    scnS (P ++ (l ++ [c])) = (pt ++ ((scnS l).1.map (shT P.length) ++ [(1, 0, [c], ((P.length + l.length : Nat) : Int))]), 0, 0) := by
  obtain ⟨_, e1, h3, _⟩ := scnS_Scan hl
  have h4 := h3.locE (x := [c]) (by show endB (byt [c] 0); exact hc)
  have hb : byt (l ++ [c]) l.length = (c.toNat : Int) := by rw [byt_app_0]; rfl
  have hg : (l ++ [c]).getD l.length 0 = c := by rw [List.getD_eq_getElem?_getD, List.getElem?_append_right (Nat.le_refl _)]; simp
  have h5 := stp_M (l := l ++ [c]) (k := l.length) (by rw [hb]; exact hm)
  rw [hg] at h5
  have h6 := h4.snoc (by rw [List.length_append]; simp) h5
  have h7 : scn (l ++ [c]) 0 = ((scnS l).1 ++ [(1, 0, [c], (l.length : Int))], 0, 0) := by
    rw [h6.scn, scn_end (by rw [List.length_append]; simp), consR, if_pos rfl, List.append_nil]
    rfl
  have h8 := scn_shift P (l ++ [c]) _ 0 (Nat.le_refl _)
  rw [h7, Nat.add_zero] at h8
  simp only [if_true] at h8
  rw [scnS, if_neg (by simp only [List.length_append, List.length_singleton]; omega), (hP (l ++ [c])).scn, h8, consR, if_pos rfl, List.map_append]
  rw [show List.map (shT P.length) [((1 : Int), (0 : Int), [c], (l.length : Int))] = [(1, 0, [c], ((P.length + l.length : Nat) : Int))] by simp [shT]; omega]
end Go.Proofs.Ytbepnjgbkfidiaa.Sc
namespace Go.Proofs.Ytbepnjgbkfidiaa.Re
open Go.Proofs.Ytbepnjgbkfidiaa.Utf
open Go.Proofs.Ytbepnjgbkfidiaa.Sc

/-- what comes of a text that is read, within something -/
def WrR (r : V × Int × Int) (v : V) (y : Int) : Prop := (y = 0 ∧ r = (v, 0, 0)) ∨ (y ≠ 0 ∧ r.2.2 = y)
theorem tk_mid {pt ts en : List Tok} {E F : Int} {n i : Nat} (hi : i < ts.length) : tk (pt ++ (ts.map (shT n) ++ en)) F (pt.length + i) = shT n (tk ts E i) := by
  rw [tk_in hi]
  unfold tk
  rw [List.getD_eq_getElem?_getD, List.getElem?_append_right (by omega), Nat.add_sub_cancel_left, List.getElem?_append_left (by rw [List.length_map]; exact hi), List.getElem?_map, List.getElem?_eq_getElem hi]
  rfl
theorem tk_behind {pt ts : List Tok} {t : Tok} {F : Int} {n : Nat} : tk (pt ++ (ts.map (shT n) ++ [t])) F (pt.length + ts.length) = t := by
  unfold tk
  rw [List.getD_eq_getElem?_getD, List.getElem?_append_right (by omega), Nat.add_sub_cancel_left, List.getElem?_append_right (by rw [List.length_map]; omega), List.length_map, Nat.sub_self]
  rfl
/-- a token at which a value begins ends nothing -/
theorem first_not {ts : List Tok} {E : Int} {f d i p j q : Nat} {v : V} (h : pV ts E f d i p = .ok v j q) (c : UInt8) (hc : c ≠ 91 ∧ c ≠ 123) : isM (tk ts E i) c = false ∧ i < ts.length := by
  cases f with
  | zero => rw [pV] at h; cases h
  | succ f =>
    rw [pV] at h
    by_cases c1 : badV (tk ts E i) = true
    · rw [if_pos c1] at h; cases h
    · have hb : badV (tk ts E i) = false := by simpa using c1
      refine ⟨?_, badV_in hb⟩
      rcases hm : isM (tk ts E i) c with _ | _
      · rfl
      · exfalso
        unfold isM at hm
        unfold badV at hb
        have h1 := of_decide_eq_true hm
        have h2 := of_decide_eq_false hb
        refine h2 (.inr ⟨h1.1, ?_, ?_⟩)
        · rw [h1.2]; simp; exact hc.1
        · rw [h1.2]; simp; exact hc.2
theorem wrap_list {l : List UInt8} (h : (rdV l).2.2 = 0) (hs : l.length + 2 ≤ 65536) : WrR (rdV ([91] ++ (l ++ [93]))) (lsV [(rdV l).1]) (fit (rdV l).1 2 1) := by
  obtain ⟨h1, h2⟩ := rdV_ok h
  rw [h2] at h
  obtain ⟨p, h3, _⟩ := rdT_ok h
  rw [← h2] at h3
  have hw := scn_wrap [91] l 93 [(1, 0, [91], 0)] (fun x => Scan.one (l := [91] ++ x) (k := 0) (m := 1) (o := some (1, 0, [91], 0)) (by simp) (stp_ext (l := [91]) (k := 0) (by decide) (by decide +kernel) (.inl (by decide)))) (by refine ⟨by decide, by decide, by decide, by decide, by decide⟩) (by decide) h1 (by simp; omega)
  generalize (rdV l).1 = v at *
  generalize hts : (scnS l).1 = ts at *
  obtain ⟨f1, f2⟩ := first_not h3 93 (by decide)
  have hfl : fuelOf ([(1, 0, [91], 0)] ++ (ts.map (shT 1) ++ [(1, 0, [93], ((1 + l.length : Nat) : Int))])) = fuelOf ts + 2 + 1 + 1 := by unfold fuelOf; simp; omega
  have hE : ((([91] ++ (l ++ [93]) : List UInt8).length : Nat) : Int) = ((l.length + 2 : Nat) : Int) := by simp; omega
  have hem := (p_emb (ts := ts) (us := [(1, 0, [91], 0)] ++ (ts.map (shT 1) ++ [(1, 0, [93], ((1 + l.length : Nat) : Int))])) (E := (l.length : Int)) (F := ((l.length + 2 : Nat) : Int)) (m := 1) (d0 := 1) (fun i hi => tk_mid (pt := [(1, 0, [91], 0)]) hi) (fuelOf ts) (fuelOf ts + 2) (by omega)).1 _ _ _ _ _ _ h3 (by omega) 2 1 (by omega)
  have t0 : tk ([(1, 0, [91], 0)] ++ (ts.map (shT 1) ++ [(1, 0, [93], ((1 + l.length : Nat) : Int))])) ((l.length + 2 : Nat) : Int) 0 = (1, 0, [91], 0) := rfl
  have t1 : isM (tk ([(1, 0, [91], 0)] ++ (ts.map (shT 1) ++ [(1, 0, [93], ((1 + l.length : Nat) : Int))])) ((l.length + 2 : Nat) : Int) (0 + 1)) 93 = false := by
    have := tk_mid (pt := [(1, 0, [91], 0)]) (ts := ts) (en := [(1, 0, [93], ((1 + l.length : Nat) : Int))]) (E := (l.length : Int)) (F := ((l.length + 2 : Nat) : Int)) (n := 1) f2
    rw [show ([(1, 0, [91], 0)] : List Tok).length + 0 = 0 + 1 from rfl] at this
    rw [this, isM_sh]; exact f1
  have t2 : tk ([(1, 0, [91], 0)] ++ (ts.map (shT 1) ++ [(1, 0, [93], ((1 + l.length : Nat) : Int))])) ((l.length + 2 : Nat) : Int) (1 + ts.length) = (1, 0, [93], ((1 + l.length : Nat) : Int)) := tk_behind (pt := [(1, 0, [91], 0)])
  have hul : ([(1, 0, [91], 0)] ++ (ts.map (shT 1) ++ [(1, 0, [93], ((1 + l.length : Nat) : Int))]) : List Tok).length = ts.length + 2 := by simp
  unfold rdV
  rw [hw]
  simp only [ne_eq, not_true_eq_false, if_false]
  rw [hE]
  generalize [(1, 0, [91], 0)] ++ (ts.map (shT 1) ++ [(1, 0, [93], ((1 + l.length : Nat) : Int))]) = us at *
  unfold rdT
  rw [hfl, pV_list (by rw [t0]; decide) (by omega) (by omega) (by rw [t0]) (by rw [t0])]
  unfold gL
  rw [if_neg (by rw [t1]; decide), if_pos rfl]
  rcases hem with ⟨k1, k2⟩ | ⟨k1, a, k2⟩
  · refine .inl ⟨k1, ?_⟩
    rw [pL_ok (f := fuelOf ts + 2) (d := 1) (i := 0 + 1) (p := 0 + 1) k2]
    unfold gL
    rw [if_pos (by rw [t2]; simp [isM])]
    simp only [Rs.map]
    rw [if_neg (by omega)]
  · refine .inr ⟨k1, ?_⟩
    rw [pL_bad (f := fuelOf ts + 2) (d := 1) (i := 0 + 1) (p := 0 + 1) k2]
    rfl
theorem scan_k (x : List UInt8) : Scan ([123, 34, 107, 34, 58] ++ x) 0 [(1, 0, [123], 0), (4, 0, [107], 1), (1, 0, [58], 4)] ([123, 34, 107, 34, 58] : List UInt8).length := by
  have a1 : stp ([123, 34, 107, 34, 58] ++ x) 0 = (some (1, 0, [123], 0), ((1 : Nat) : Int), 0) := stp_ext (l := [123, 34, 107, 34, 58]) (by decide) (by decide +kernel) (.inl (by decide))
  have a2 : stp ([123, 34, 107, 34, 58] ++ x) 1 = (some (4, 0, [107], 1), ((4 : Nat) : Int), 0) := stp_ext (l := [123, 34, 107, 34, 58]) (by decide) (by decide +kernel) (.inr (by decide))
  have a3 : stp ([123, 34, 107, 34, 58] ++ x) 4 = (some (1, 0, [58], 4), ((5 : Nat) : Int), 0) := stp_ext (l := [123, 34, 107, 34, 58]) (by decide) (by decide +kernel) (.inl (by decide))
  exact (Scan.one (by simp) a1).trans ((Scan.one (by simp) a2).trans (Scan.one (by simp) a3))
theorem wrap_map {l : List UInt8} (h : (rdV l).2.2 = 0) (hs : l.length + 6 ≤ 65536) : WrR (rdV ([123, 34, 107, 34, 58] ++ (l ++ [125]))) (mpV ([[107]], [(rdV l).1])) (fit (rdV l).1 2 1) := by
  obtain ⟨h1, h2⟩ := rdV_ok h
  rw [h2] at h
  obtain ⟨p, h3, _⟩ := rdT_ok h
  rw [← h2] at h3
  have hw := scn_wrap [123, 34, 107, 34, 58] l 125 [(1, 0, [123], 0), (4, 0, [107], 1), (1, 0, [58], 4)] scan_k (by refine ⟨by decide, by decide, by decide, by decide, by decide⟩) (by decide) h1 (by simp; omega)
  generalize (rdV l).1 = v at *
  generalize hts : (scnS l).1 = ts at *
  obtain ⟨f1, f2⟩ := first_not h3 125 (by decide)
  have hfl : fuelOf ([(1, 0, [123], 0), (4, 0, [107], 1), (1, 0, [58], 4)] ++ (ts.map (shT 5) ++ [(1, 0, [125], ((5 + l.length : Nat) : Int))])) = fuelOf ts + 6 + 1 + 1 := by unfold fuelOf; simp; omega
  have hE : ((([123, 34, 107, 34, 58] ++ (l ++ [125]) : List UInt8).length : Nat) : Int) = ((l.length + 6 : Nat) : Int) := by simp; omega
  have hem := (p_emb (ts := ts) (us := [(1, 0, [123], 0), (4, 0, [107], 1), (1, 0, [58], 4)] ++ (ts.map (shT 5) ++ [(1, 0, [125], ((5 + l.length : Nat) : Int))])) (E := (l.length : Int)) (F := ((l.length + 6 : Nat) : Int)) (m := 3) (d0 := 5) (fun i hi => tk_mid (pt := [(1, 0, [123], 0), (4, 0, [107], 1), (1, 0, [58], 4)]) hi) (fuelOf ts) (fuelOf ts + 6) (by omega)).1 _ _ _ _ _ _ h3 (by omega) 2 1 (by omega)
  have t0 : tk ([(1, 0, [123], 0), (4, 0, [107], 1), (1, 0, [58], 4)] ++ (ts.map (shT 5) ++ [(1, 0, [125], ((5 + l.length : Nat) : Int))])) ((l.length + 6 : Nat) : Int) 0 = (1, 0, [123], 0) := rfl
  have t1 : tk ([(1, 0, [123], 0), (4, 0, [107], 1), (1, 0, [58], 4)] ++ (ts.map (shT 5) ++ [(1, 0, [125], ((5 + l.length : Nat) : Int))])) ((l.length + 6 : Nat) : Int) 1 = (4, 0, [107], 1) := rfl
  have t3 : tk ([(1, 0, [123], 0), (4, 0, [107], 1), (1, 0, [58], 4)] ++ (ts.map (shT 5) ++ [(1, 0, [125], ((5 + l.length : Nat) : Int))])) ((l.length + 6 : Nat) : Int) (1 + 1) = (1, 0, [58], 4) := rfl
  have t2 : tk ([(1, 0, [123], 0), (4, 0, [107], 1), (1, 0, [58], 4)] ++ (ts.map (shT 5) ++ [(1, 0, [125], ((5 + l.length : Nat) : Int))])) ((l.length + 6 : Nat) : Int) (3 + ts.length) = (1, 0, [125], ((5 + l.length : Nat) : Int)) := tk_behind (pt := [(1, 0, [123], 0), (4, 0, [107], 1), (1, 0, [58], 4)])
  have hul : ([(1, 0, [123], 0), (4, 0, [107], 1), (1, 0, [58], 4)] ++ (ts.map (shT 5) ++ [(1, 0, [125], ((5 + l.length : Nat) : Int))]) : List Tok).length = ts.length + 4 := by simp
  unfold rdV
  rw [hw]
  simp only [ne_eq, not_true_eq_false, if_false]
  rw [hE]
  generalize [(1, 0, [123], 0), (4, 0, [107], 1), (1, 0, [58], 4)] ++ (ts.map (shT 5) ++ [(1, 0, [125], ((5 + l.length : Nat) : Int))]) = us at *
  unfold rdT
  rw [hfl, pV_map (by rw [t0]; decide) (by omega) (by omega) (by rw [t0]) (by rw [t0]; decide)]
  unfold gM
  rw [if_neg (by rw [show 0 + 1 = 1 from rfl, t1]; decide), if_pos rfl]
  have h4 : (tk us ((l.length + 6 : Nat) : Int) (0 + 1)).1 = 4 := by rw [show 0 + 1 = 1 from rfl, t1]
  have hn : (tk us ((l.length + 6 : Nat) : Int) (0 + 1)).2.2.1 = [107] := by rw [show 0 + 1 = 1 from rfl, t1]
  have hc : isM (tk us ((l.length + 6 : Nat) : Int) (0 + 1 + 1)) 58 = true := by rw [show 0 + 1 + 1 = 1 + 1 from rfl, t3]; decide
  rcases hem with ⟨k1, k2⟩ | ⟨k1, a, k2⟩
  · refine .inl ⟨k1, ?_⟩
    rw [pM_ok (f := fuelOf ts + 6) (d := 1) (i := 0 + 1) (p := 0 + 1) h4 (by simp) hc k2]
    unfold gM
    rw [if_pos (by rw [t2]; simp [isM]), hn]
    simp only [Rs.map]
    rw [if_neg (by omega)]
  · refine .inr ⟨k1, ?_⟩
    rw [pM_bad (f := fuelOf ts + 6) (d := 1) (i := 0 + 1) (p := 0 + 1) h4 (by simp) hc k2]
    rfl
/-- wrapped, a value is no longer right just if it was as deep, or as many, as may be -/
theorem fit_wrap {v : V} (h1 : dp v 1 ≤ 16) (h2 : cnt v ≤ 8192) : (fit v 2 1 = 0 ↔ ¬ (cnt v = 8192 ∨ dp v 1 = 16)) ∧ (fit v 2 1 = 0 ∨ fit v 2 1 = 51 ∨ fit v 2 1 = 53) := by
  obtain ⟨h3, h4⟩ := fit_iff v 2 1 (by omega)
  have h5 : dp v 2 = dp v 1 + 1 := dp_up v 1
  refine ⟨?_, h4⟩
  rw [h3]
  omega
end Go.Proofs.Ytbepnjgbkfidiaa.Re
