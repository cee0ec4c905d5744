import Derived.Test.YthokaeaefmajjaaDoorScPl
/- Plain facts on tokens: where they lie; two texts behind one another. No run of the program in this text. -/
namespace Go.Proofs.YthokaeaefmajjaaDoor.Sc
open Go.RowKit
open Go.Proofs.YthokaeaefmajjaaDoor.Utf
open Go.Proofs.YthokaeaefmajjaaDoor.Ch (readS readS_in readS_out readL readL_facts begins_plain again_plain back_plain bad_plain qbL)
open Go.Proofs.YthokaeaefmajjaaDoor.Nu

/-- what a step gives: none at white space; else a token at its place, where none stands -/
theorem stp_tok {l : List UInt8} {k : Nat} {m : Int} {o : Option Tok} (h : stp l k = (o, m, 0)) : (o = none ∧ isW (byt l k) = true) ∨ (∃ t, o = some t ∧ t.2.2.2 = (k : Int) ∧ isW (byt l k) = false) := by
  unfold stp at h
  by_cases c1 : isW (byt l k) = true
  · rw [if_pos c1] at h
    exact .inl ⟨(congrArg Prod.fst h).symm, c1⟩
  · have c1' : isW (byt l k) = false := by simpa using c1
    rw [if_neg c1] at h
    refine .inr ?_
    have key : ∀ w, wrd l k w = (o, m, 0) → ∃ t, o = some t ∧ t.2.2.2 = (k : Int) ∧ isW (byt l k) = false := by
      intro w hw
      unfold wrd at hw
      split at hw
      · exact ⟨_, (congrArg Prod.fst hw).symm, rfl, c1'⟩
      · exact absurd (congrArg (fun x => x.2.2) hw) (by simp)
    by_cases c2 : isMk (byt l k) = true
    · rw [if_pos c2] at h
      exact ⟨_, (congrArg Prod.fst h).symm, rfl, c1'⟩
    rw [if_neg c2] at h
    by_cases c3 : byt l k = 34
    · rw [if_pos c3] at h
      unfold txT at h
      split at h
      · exact ⟨_, (congrArg Prod.fst h).symm, rfl, c1'⟩
      · rename_i he; exact absurd (congrArg (fun x => x.2.2) h) he
    rw [if_neg c3] at h
    by_cases c4 : isNm (byt l k) = true
    · rw [if_pos c4] at h
      unfold nmT at h
      split at h
      · exact ⟨_, (congrArg Prod.fst h).symm, rfl, c1'⟩
      · rename_i he; exact absurd (congrArg (fun x => x.2.2) h) he
    rw [if_neg c4] at h
    by_cases c5 : byt l k = 116
    · rw [if_pos c5] at h; exact key _ h
    rw [if_neg c5] at h
    by_cases c6 : byt l k = 102
    · rw [if_pos c6] at h; exact key _ h
    rw [if_neg c6] at h
    by_cases c7 : byt l k = 110
    · rw [if_pos c7] at h; exact key _ h
    rw [if_neg c7] at h
    exact absurd (congrArg (fun x => x.2.2) h) (by simp)

/-- tokens that begin one behind the other from a place on, where no white space stands -/
def asc (l : List UInt8) : Nat → List Tok → Prop
  | _, [] => True
  | k, t :: r => ∃ q : Nat, t.2.2.2 = (q : Int) ∧ k ≤ q ∧ q < l.length ∧ isW (byt l q) = false ∧ asc l (q + 1) r
theorem asc_mono {l : List UInt8} {k m : Nat} {ts : List Tok} (h : asc l m ts) (hk : k ≤ m) : asc l k ts := by
  cases ts with
  | nil => trivial
  | cons t r =>
    obtain ⟨q, h1, h2, h3⟩ := h
    exact ⟨q, h1, by omega, h3⟩
theorem Scan.asc {l : List UInt8} {k n : Nat} {ts : List Tok} (h : Scan l k ts n) : asc l k ts := by
  induction h with
  | nil k => trivial
  | cons hk hs _ ih =>
    rename_i k m n o ts _
    obtain ⟨m', e, h4, h5⟩ := stp_ok hk (by rw [hs])
    rw [hs] at e
    simp only at e
    rcases stp_tok hs with ⟨rfl, _⟩ | ⟨t, rfl, ha, hw⟩
    · exact asc_mono ih (by omega)
    · exact ⟨k, ha, Nat.le_refl _, hk, hw, asc_mono ih (by omega)⟩
theorem asc_at {l : List UInt8} : ∀ {ts : List Tok} {k : Nat}, asc l k ts → ∀ i (h : i < ts.length), ∃ q : Nat, ts[i].2.2.2 = (q : Int) ∧ k ≤ q ∧ q < l.length ∧ isW (byt l q) = false ∧ (∀ (h2 : i + 1 < ts.length), ts[i].2.2.2 < ts[i + 1].2.2.2) := by
  intro ts
  induction ts with
  | nil => intro k _ i h; simp at h
  | cons t r ih =>
    intro k h i hi
    obtain ⟨q, h1, h2, h3, h4, h5⟩ := h
    cases i with
    | zero =>
      refine ⟨q, h1, h2, h3, h4, fun h => ?_⟩
      obtain ⟨q2, g1, g2, _⟩ := ih h5 0 (by simpa using h)
      have e : (t :: r)[0 + 1].2.2.2 = (q2 : Int) := g1
      have e0 : (t :: r)[0].2.2.2 = (q : Int) := h1
      omega
    | succ i =>
      obtain ⟨q2, g1, g2, g3, g4, g5⟩ := ih h5 i (by simpa using hi)
      exact ⟨q2, g1, by omega, g3, g4, fun h => g5 (by simpa using h)⟩

/-! ### so much further on -/
def shT (d : Nat) (t : Tok) : Tok := (t.1, t.2.1, t.2.2.1, t.2.2.2 + (d : Int))
theorem readS_shift (p l : List UInt8) (k : Nat) (hk : k < l.length) (hb : byt l k = 34) : readS (p ++ l) ((p.length + k : Nat) : Int) = ((readS l k).1, (readS l k).2.1 + (p.length : Int), (readS l k).2.2) := by
  have hd : (p ++ l).drop (p.length + k + 1) = l.drop (k + 1) := by
    rw [Nat.add_assoc, ← List.drop_drop, List.drop_left' rfl]
  rw [readS_in (by rw [List.length_append]; omega) (by rw [byt_app_r]; exact hb), readS_in hk hb, hd]
  split <;> (rw [Prod.ext_iff, Prod.ext_iff]; refine ⟨rfl, ?_, rfl⟩; simp only; omega)
theorem accD_shift (p l : List UInt8) (f : Nat) : ∀ r, accD (p ++ l) (p.length + f) r = accD l f r := by
  intro r
  induction r with
  | zero => rfl
  | succ r ih => rw [accD, accD, ih, Nat.add_assoc, byt_app_r]
theorem runL_shift (p l : List UInt8) (f : Nat) : runL (p ++ l) (p.length + f) = runL l f := by
  unfold runL
  rw [← List.drop_drop, List.drop_left' rfl]
theorem rdS_shift (p l : List UInt8) (k : Nat) (hk : k < l.length) : rdS (p ++ l) ((p.length + k : Nat) : Int) = ((rdS l k).1, (rdS l k).2.1 + (p.length : Int), (rdS l k).2.2) := by
  have e1 : rdS (p ++ l) ((p.length + k : Nat) : Int) = rdN (p ++ l) (p.length + k) := by rw [rdS, if_neg (by rw [List.length_append]; omega), Int.toNat_natCast]
  have e2 : rdS l k = rdN l k := by rw [rdS, if_neg (by omega), Int.toNat_natCast]
  have e3 : fstN (p ++ l) (p.length + k) = p.length + fstN l k := by unfold fstN; rw [byt_app_r]; split <;> omega
  have e4 : badN (p ++ l) (p.length + fstN l k) (runL l (fstN l k)) ↔ badN l (fstN l k) (runL l (fstN l k)) := by
    unfold badN
    rw [accD_shift, byt_app_r, Nat.add_assoc, byt_app_r]
  rw [e1, e2]
  unfold rdN
  rw [e3, runL_shift, accD_shift, byt_app_r]
  by_cases hb : badN l (fstN l k) (runL l (fstN l k))
  · rw [if_pos (e4.2 hb), if_pos hb]
    rw [Prod.ext_iff, Prod.ext_iff]; refine ⟨rfl, ?_, rfl⟩; simp only; omega
  · rw [if_neg (fun h => hb (e4.1 h)), if_neg hb]
    rw [Prod.ext_iff, Prod.ext_iff]; refine ⟨rfl, ?_, rfl⟩; simp only; omega
theorem wrd_shift (p l : List UInt8) (k : Nat) (w : List UInt8) : wrd (p ++ l) (p.length + k) w = ((wrd l k w).1.map (shT p.length), (wrd l k w).2.1 + (p.length : Int), (wrd l k w).2.2) := by
  have e : hasW (p ++ l) (p.length + k) w ↔ hasW l k w := by
    unfold hasW
    rw [← List.drop_drop, List.drop_left' rfl, Nat.add_assoc, byt_app_r]
  unfold wrd
  by_cases h : hasW l k w
  · rw [if_pos (e.2 h), if_pos h]
    rw [Prod.ext_iff, Prod.ext_iff]
    refine ⟨?_, by simp only; omega, rfl⟩
    simp only [Option.map_some, shT]
    congr 4
    omega
  · rw [if_neg (fun x => h (e.1 x)), if_neg h]
    rw [Prod.ext_iff, Prod.ext_iff]
    exact ⟨rfl, by simp only; omega, rfl⟩
theorem stp_shift (p l : List UInt8) (k : Nat) (hk : k < l.length) : stp (p ++ l) (p.length + k) = ((stp l k).1.map (shT p.length), (stp l k).2.1 + (p.length : Int), (stp l k).2.2) := by
  have hg : (p ++ l).getD (p.length + k) 0 = l.getD k 0 := by
    rw [List.getD_eq_getElem?_getD, List.getD_eq_getElem?_getD, List.getElem?_append_right (by omega), Nat.add_sub_cancel_left]
  have hat : ((p.length + k : Nat) : Int) = (k : Int) + (p.length : Int) := by omega
  unfold stp
  rw [byt_app_r, hg]
  by_cases c1 : isW (byt l k) = true
  · rw [if_pos c1, if_pos c1]
    rw [Prod.ext_iff, Prod.ext_iff]; exact ⟨rfl, by simp only; omega, rfl⟩
  rw [if_neg c1, if_neg c1]
  by_cases c2 : isMk (byt l k) = true
  · rw [if_pos c2, if_pos c2, hat]
    rw [Prod.ext_iff, Prod.ext_iff]; exact ⟨rfl, by simp only; omega, rfl⟩
  rw [if_neg c2, if_neg c2]
  by_cases c3 : byt l k = 34
  · rw [if_pos c3, if_pos c3]
    unfold txT
    rw [readS_shift p l k hk c3, hat]
    by_cases he : (readS l k).2.2 = 0
    · rw [if_pos he, if_pos he]; rfl
    · rw [if_neg he, if_neg he]; rfl
  rw [if_neg c3, if_neg c3]
  by_cases c4 : isNm (byt l k) = true
  · rw [if_pos c4, if_pos c4]
    unfold nmT
    rw [rdS_shift p l k hk, hat]
    by_cases he : (rdS l k).2.2 = 0
    · rw [if_pos he, if_pos he]; rfl
    · rw [if_neg he, if_neg he]; rfl
  rw [if_neg c4, if_neg c4]
  by_cases c5 : byt l k = 116
  · rw [if_pos c5, if_pos c5]; exact wrd_shift _ _ _ _
  rw [if_neg c5, if_neg c5]
  by_cases c6 : byt l k = 102
  · rw [if_pos c6, if_pos c6]; exact wrd_shift _ _ _ _
  rw [if_neg c6, if_neg c6]
  by_cases c7 : byt l k = 110
  · rw [if_pos c7, if_pos c7]; exact wrd_shift _ _ _ _
  rw [if_neg c7, if_neg c7]
  rw [Prod.ext_iff, Prod.ext_iff]; exact ⟨rfl, by simp only; omega, rfl⟩
/-- a text with another one ahead of it -/
theorem scn_shift (p l : List UInt8) : ∀ f k, l.length - k ≤ f → scn (p ++ l) (p.length + k) = ((scn l k).1.map (shT p.length), if (scn l k).2.2 = 0 then (scn l k).2.1 else (scn l k).2.1 + (p.length : Int), (scn l k).2.2) := by
  intro f
  induction f with
  | zero =>
    intro k h
    rw [scn_end (by rw [List.length_append]; omega), scn_end (by omega)]
    rfl
  | succ f ih =>
    intro k h
    by_cases hk : k < l.length
    · have hs := stp_shift p l k hk
      have hk2 : p.length + k < (p ++ l).length := by rw [List.length_append]; omega
      by_cases he : (stp l k).2.2 = 0
      · obtain ⟨m, h4, h5, h6⟩ := stp_ok hk he
        have hst : stp l k = ((stp l k).1, (m : Int), 0) := by rw [Prod.ext_iff, Prod.ext_iff]; exact ⟨rfl, h4, he⟩
        have hst2 : stp (p ++ l) (p.length + k) = ((stp l k).1.map (shT p.length), ((p.length + m : Nat) : Int), 0) := by
          rw [hs, h4, he]
          rw [Prod.ext_iff, Prod.ext_iff]; exact ⟨rfl, by simp only; omega, rfl⟩
        rw [scn_go hk hst, scn_go hk2 hst2, ih m (by omega)]
        unfold consR
        by_cases h0 : (scn l m).2.2 = 0
        · rw [if_pos h0, if_pos h0, if_pos h0, if_pos rfl]
          rw [Prod.ext_iff, Prod.ext_iff]
          refine ⟨?_, rfl, rfl⟩
          simp only [List.map_append]
          cases (stp l k).1 <;> rfl
        · rw [if_neg h0, if_neg h0, if_neg h0, if_neg h0]
      · rw [scn_err hk he, scn_err hk2 (by rw [hs]; exact he), hs, if_neg he]
        rfl
    · rw [scn_end (by rw [List.length_append]; omega), scn_end (by omega)]
      rfl

/-! ### what stands behind white space means nothing -/
theorem isW_not {c : Int} (h : isW c = true) : isD c = false ∧ c ≠ 46 ∧ c ≠ 101 ∧ c ≠ 69 ∧ isPart c = false := by
  have := (isW_iff c).1 h
  refine ⟨isD_no (by omega), by omega, by omega, by omega, bool_no (isPart_iff c) (by omega)⟩
theorem wrd_loc {l x : List UInt8} {k : Nat} {w : List UInt8} {o : Option Tok} {m : Int} (hw : w ≠ []) (h : wrd l k w = (o, m, 0)) (hx : isW (byt x 0) = true) : wrd (l ++ x) k w = (o, m, 0) := by
  obtain ⟨m', e1, e2, e3⟩ := wrd_ok_le hw (by rw [h])
  unfold wrd at h
  by_cases hh : hasW l k w
  · rw [if_pos hh] at h
    have e4 : ((k + w.length : Nat) : Int) = m := congrArg (fun x => x.2.1) h
    unfold wrd at e1
    rw [if_pos hh] at e1
    simp only at e1
    obtain ⟨h1, h2⟩ := hh
    unfold wrd
    rw [if_pos ?_, h]
    refine ⟨?_, ?_⟩
    · rw [List.drop_append_of_le_length (by omega), List.take_append_of_le_length (by rw [List.length_drop]; omega)]
      exact h1
    · rcases Nat.lt_or_ge (k + w.length) l.length with g | g
      · rw [byt_app_l _ _ _ g]; exact h2
      · rw [show k + w.length = l.length by omega, byt_app_0]; exact (isW_not hx).2.2.2.2
  · rw [if_neg hh] at h
    exact absurd (congrArg (fun x => x.2.2) h) (by simp)
theorem rdS_loc {l x : List UInt8} {k : Nat} (hk : k < l.length) (h : (rdS l k).2.2 = 0) (hx : isW (byt x 0) = true) : rdS (l ++ x) k = rdS l k := by
  have e1 : rdS (l ++ x) (k : Int) = rdN (l ++ x) k := by rw [rdS, if_neg (by rw [List.length_append]; omega), Int.toNat_natCast]
  have e2 : rdS l k = rdN l k := by rw [rdS, if_neg (by omega), Int.toNat_natCast]
  rw [e2] at h
  have hb : ¬ badN l (fstN l k) (runL l (fstN l k)) := by
    intro hb
    unfold rdN at h
    rw [if_pos hb] at h
    simp at h
  have hf : fstN (l ++ x) k = fstN l k := by unfold fstN; rw [byt_app_l _ _ _ hk]
  have hfl := (fst_le l k hk).2
  have hrl := runL_le l (fstN l k) hfl
  have hd := (digsK_iff _ _ _).1 (runL_digs l (fstN l k))
  have hs := runL_stop l (fstN l k)
  have hnot := isW_not hx
  have hlast : isD (byt (l ++ x) (fstN l k + runL l (fstN l k))) = false ∧ (byt (l ++ x) (fstN l k + runL l (fstN l k)) = byt l (fstN l k + runL l (fstN l k)) ∨ (byt (l ++ x) (fstN l k + runL l (fstN l k)) ≠ 46 ∧ byt (l ++ x) (fstN l k + runL l (fstN l k)) ≠ 101 ∧ byt (l ++ x) (fstN l k + runL l (fstN l k)) ≠ 69)) := by
    rcases Nat.lt_or_ge (fstN l k + runL l (fstN l k)) l.length with g | g
    · rw [byt_app_l _ _ _ g]; exact ⟨hs, .inl rfl⟩
    · rw [show fstN l k + runL l (fstN l k) = l.length by omega, byt_app_0]
      exact ⟨hnot.1, .inr ⟨hnot.2.1, hnot.2.2.1, hnot.2.2.2.1⟩⟩
  have hr : runL (l ++ x) (fstN l k) = runL l (fstN l k) := by
    refine runL_eq ((digsK_iff _ _ _).2 fun j hj => ?_) hlast.1
    have := hd j hj
    rw [byt_app_l _ _ _ (isD_in this)]
    exact this
  have ha : accD (l ++ x) (fstN l k) (runL l (fstN l k)) = accD l (fstN l k) (runL l (fstN l k)) := accD_app _ _ _ _ hrl
  have hr0 : runL l (fstN l k) ≠ 0 := fun h => hb (.inl h)
  have hfb : byt (l ++ x) (fstN l k) = byt l (fstN l k) := byt_app_l _ _ _ (by omega)
  have hb2 : ¬ badN (l ++ x) (fstN l k) (runL l (fstN l k)) := by
    unfold badN at hb ⊢
    rw [ha, hfb]
    omega
  rw [e1, e2]
  unfold rdN
  rw [hf, hr, ha, if_neg hb2, if_neg hb, byt_app_l _ _ _ hk]
theorem stp_loc {l x : List UInt8} {k : Nat} {o : Option Tok} {m : Int} (hk : k < l.length) (h : stp l k = (o, m, 0)) (hx : isW (byt x 0) = true) : stp (l ++ x) k = (o, m, 0) := by
  have hb : byt (l ++ x) k = byt l k := byt_app_l _ _ _ hk
  have hg : (l ++ x).getD k 0 = l.getD k 0 := by
    rw [List.getD_eq_getElem?_getD, List.getD_eq_getElem?_getD, List.getElem?_append_left hk]
  unfold stp at h ⊢
  rw [hb, hg]
  by_cases c1 : isW (byt l k) = true
  · rw [if_pos c1] at h ⊢; exact h
  rw [if_neg c1] at h ⊢
  by_cases c2 : isMk (byt l k) = true
  · rw [if_pos c2] at h ⊢; exact h
  rw [if_neg c2] at h ⊢
  by_cases c3 : byt l k = 34
  · rw [if_pos c3] at h ⊢
    unfold txT at h ⊢
    by_cases he : (readS l k).2.2 = 0
    · rcases hr : readS l k with ⟨t, n, e⟩
      rw [hr] at he
      simp only at he
      subst he
      have h1 := (begins_plain l (l.drop n.toNat ++ x) k t n hr).1
      rw [← List.append_assoc, List.take_append_drop] at h1
      rw [h1]
      rw [hr] at h
      exact h
    · rw [if_neg he] at h
      exact absurd (congrArg (fun x => x.2.2) h) he
  rw [if_neg c3] at h ⊢
  by_cases c4 : isNm (byt l k) = true
  · rw [if_pos c4] at h ⊢
    unfold nmT at h ⊢
    by_cases he : (rdS l k).2.2 = 0
    · rw [rdS_loc hk he hx]; exact h
    · rw [if_neg he] at h
      exact absurd (congrArg (fun x => x.2.2) h) he
  rw [if_neg c4] at h ⊢
  by_cases c5 : byt l k = 116
  · rw [if_pos c5] at h ⊢; exact wrd_loc (by decide) h hx
  rw [if_neg c5] at h ⊢
  by_cases c6 : byt l k = 102
  · rw [if_pos c6] at h ⊢; exact wrd_loc (by decide) h hx
  rw [if_neg c6] at h ⊢
  by_cases c7 : byt l k = 110
  · rw [if_pos c7] at h ⊢; exact wrd_loc (by decide) h hx
  rw [if_neg c7] at h ⊢
  exact h
theorem Scan.loc {l x : List UInt8} {k m : Nat} {ts : List Tok} (h : Scan l k ts m) (hx : isW (byt x 0) = true) : Scan (l ++ x) k ts m := by
  induction h with
  | nil k => exact .nil k
  | cons hk hs _ ih => exact .cons (by rw [List.length_append]; omega) (stp_loc hk hs hx) ih

/-- two texts with white space between them -/
theorem split_plain (s t : List UInt8) (h : (scn s 0).2.2 = 0) : scn (s ++ 32 :: t) 0 = consR (scn s 0).1 ((scn t 0).1.map (shT (s.length + 1)), if (scn t 0).2.2 = 0 then (scn t 0).2.1 else (scn t 0).2.1 + (s.length + 1 : Nat), (scn t 0).2.2) := by
  have h1 := (scn_Scan s _ 0 (Nat.le_refl _) (by omega) h).1.loc (x := 32 :: t) (by rw [byt_cons_0]; decide)
  have h2 : stp (s ++ 32 :: t) s.length = (none, ((s.length + 1 : Nat) : Int), 0) := by
    unfold stp
    rw [byt_app_0, if_pos (by rfl)]
  have h3 := h1.snoc (by rw [List.length_append]; simp) h2
  have h4 := scn_shift (s ++ [32]) t _ 0 (Nat.le_refl _)
  rw [List.append_assoc, List.length_append] at h4
  rw [h3.scn]
  simp only [Option.toList_none, List.append_nil]
  congr 1
end Go.Proofs.YthokaeaefmajjaaDoor.Sc
