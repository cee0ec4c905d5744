import Derived.Test.YthokaeaefmajjaaDoorScI0
import Derived.Test.YthokaeaefmajjaaDoorScPl2
/- Plain facts on tokens: what is written is scanned as it was. No run of the program in this text. -/
namespace Go.Proofs.YthokaeaefmajjaaDoor.Sc
open Go.RowKit
open Go.Proofs.YthokaeaefmajjaaDoor.Utf
open Go.Proofs.YthokaeaefmajjaaDoor.Ch (readS readS_in readS_out readL readL_facts begins_plain again_plain back_plain bad_plain qbL)
open Go.Proofs.YthokaeaefmajjaaDoor.Nu

theorem qb_pos (c : UInt8) : 1 ≤ (Ch.qb c).length := by
  unfold Ch.qb
  rw [Ch.toB_len]
  unfold Ch.qbZ
  split
  · have := (Ch.escZ_le (c.toNat : Int)).1; omega
  · simp
theorem len_qbL (l : List UInt8) : l.length ≤ (qbL l).length := by
  induction l with
  | nil => simp
  | cons c r ih =>
    have h := qb_pos c
    rw [show c :: r = [c] ++ r from rfl, Ch.qbL_append, List.length_append, List.length_append]
    have : (qbL [c]).length = (Ch.qb c).length := by simp [qbL]
    simp only [List.length_singleton]
    omega
/-- what a scanned token is -/
def okT (t : Tok) : Prop :=
  (t.1 = 1 ∧ t.2.1 = 0 ∧ ∃ c : UInt8, t.2.2.1 = [c] ∧ isMk (c.toNat : Int) = true) ∨ (t.1 = 2 ∧ t.2.1 = 0 ∧ ∃ i, i < 3 ∧ t.2.2.1 = wrds i) ∨
  (t.1 = 3 ∧ t.2.1.natAbs ≤ maxN ∧ t.2.2.1 = []) ∨ (t.1 = 4 ∧ t.2.1 = 0 ∧ (ptsL t.2.2.1).2 = t.2.2.1.length)
/-- a token's text -/
def wr (t : Tok) : List UInt8 := if t.1 = 3 then putL t.2.1 else if t.1 = 4 then 34 :: (qbL t.2.2.1 ++ [34]) else t.2.2.1

theorem stp_okT {l : List UInt8} {k : Nat} {m : Int} {t : Tok} (h : stp l k = (some t, m, 0)) : okT t ∧ t.2.2.1.length ≤ l.length + 1 := by
  have key : ∀ i, i < 3 → wrd l k (wrds i) = (some t, m, 0) → okT t ∧ t.2.2.1.length ≤ l.length + 1 := by
    intro i hi hw
    have hle := wrd_ok_le (w := wrds i) (l := l) (k := k) (fun e => by have := (wrds_len i).1; rw [e] at this; simp at this) (by rw [hw])
    unfold wrd at hw
    split at hw
    · rename_i hh
      have e : (2, 0, wrds i, (k : Int)) = t := Option.some.inj (congrArg Prod.fst hw)
      subst e
      refine ⟨.inr (.inl ⟨rfl, rfl, i, hi, rfl⟩), ?_⟩
      have h1 := congrArg List.length hh.1
      rw [List.length_take, List.length_drop] at h1
      show (wrds i).length ≤ l.length + 1
      omega
    · exact absurd (congrArg (fun x => x.2.2) hw) (by simp)
  unfold stp at h
  by_cases c1 : isW (byt l k) = true
  · rw [if_pos c1] at h; exact absurd (congrArg Prod.fst h) (by simp)
  rw [if_neg c1] at h
  by_cases c2 : isMk (byt l k) = true
  · rw [if_pos c2] at h
    have e : (1, 0, [l.getD k 0], (k : Int)) = t := Option.some.inj (congrArg Prod.fst h)
    subst e
    exact ⟨.inl ⟨rfl, rfl, _, rfl, c2⟩, by simp⟩
  rw [if_neg c2] at h
  by_cases c3 : byt l k = 34
  · rw [if_pos c3] at h
    unfold txT at h
    split at h
    · rename_i he
      have e := Option.some.inj (congrArg Prod.fst h)
      subst e
      rcases hr : readS l k with ⟨tx, n, e⟩
      rw [hr] at he
      simp only at he
      subst he
      obtain ⟨f1, f2, f3, f4, f5, _⟩ := again_plain l k tx n hr
      refine ⟨.inr (.inr (.inr ⟨rfl, rfl, f1⟩)), ?_⟩
      have hq := len_qbL tx
      show tx.length ≤ l.length + 1
      omega
    · rename_i he; exact absurd (congrArg (fun x => x.2.2) h) he
  rw [if_neg c3] at h
  by_cases c4 : isNm (byt l k) = true
  · rw [if_pos c4] at h
    unfold nmT at h
    split at h
    · have e := Option.some.inj (congrArg Prod.fst h)
      subst e
      have hb := rdS_bounds l k
      refine ⟨.inr (.inr (.inl ⟨rfl, ?_, rfl⟩)), by simp⟩
      show (rdS l k).1.natAbs ≤ maxN
      omega
    · rename_i he; exact absurd (congrArg (fun x => x.2.2) h) he
  rw [if_neg c4] at h
  by_cases c5 : byt l k = 116
  · rw [if_pos c5] at h; exact key 0 (by omega) h
  rw [if_neg c5] at h
  by_cases c6 : byt l k = 102
  · rw [if_pos c6] at h; exact key 1 (by omega) h
  rw [if_neg c6] at h
  by_cases c7 : byt l k = 110
  · rw [if_pos c7] at h; exact key 2 (by omega) h
  rw [if_neg c7] at h
  exact absurd (congrArg Prod.fst h) (by simp)
theorem Scan.okT {l : List UInt8} {k n : Nat} {ts : List Tok} (h : Scan l k ts n) : ∀ t ∈ ts, okT t ∧ t.2.2.1.length ≤ l.length + 1 := by
  induction h with
  | nil k => simp
  | cons hk hs _ ih =>
    rename_i o ts _
    intro t ht
    rw [List.mem_append] at ht
    rcases ht with ht | ht
    · cases o with
      | none => simp at ht
      | some u =>
        simp at ht
        subst ht
        exact stp_okT hs
    · exact ih t ht
theorem wr_len {t : Tok} {L : Nat} (h : t.2.2.1.length ≤ L) : (wr t).length ≤ 6 * L + 30 := by
  unfold wr
  have h1 := putL_len t.2.1
  have h2 := Ch.qbL_le t.2.2.1
  split
  · omega
  · split
    · rw [List.length_cons, List.length_append]; simp; omega
    · omega

/-- a token's text, with white space behind it, is that token -/
theorem stp_wr {t : Tok} {x : List UInt8} (h : okT t) (hx : isW (byt x 0) = true) : stp (wr t ++ x) 0 = (some (t.1, t.2.1, t.2.2.1, 0), ((wr t).length : Int), 0) ∧ 0 < (wr t).length := by
  obtain ⟨a, n, s, z⟩ := t
  have hn := isW_not hx
  rcases h with ⟨h1, h2, c, h3, h4⟩ | ⟨h1, h2, i, hi, h3⟩ | ⟨h1, h2, h3⟩ | ⟨h1, h2, h3⟩
  · simp only at h1 h2 h3
    subst h1 h2 h3
    have hw : wr (1, 0, [c], z) = [c] := rfl
    rw [hw]
    refine ⟨?_, by simp⟩
    rw [stp_M (by exact h4)]
    rfl
  · simp only at h1 h2 h3
    subst h1 h2 h3
    have hw : wr (2, 0, wrds i, z) = wrds i := rfl
    have hl := (wrds_len i).1
    rw [hw]
    refine ⟨?_, by omega⟩
    rw [stp_wd hi (byt_app_l _ _ _ (by omega)), wrd, if_pos]
    · rw [Nat.zero_add]; rfl
    · refine ⟨by rw [List.drop_zero, List.take_left' rfl], ?_⟩
      rw [Nat.zero_add, byt_app_0]
      exact hn.2.2.2.2
  · simp only at h1 h2 h3
    subst h1 h3
    have hw : wr (3, n, [], z) = putL n := rfl
    have hm : maxN = 9007199254740991 := rfl
    have hl := (putL_len n).1
    rw [hw]
    refine ⟨?_, by omega⟩
    have hr := rd_put n (by omega) x hn.1
    rw [if_neg (by rintro (h | h | h | h); omega; exact hn.2.1 h; exact hn.2.2.1 h; exact hn.2.2.2.1 h)] at hr
    have h0 : isNm (byt (putL n ++ x) 0) = true := by
      rw [isNm_iff, byt_app_l _ _ _ (by omega)]
      unfold putL
      split
      · exact .inl rfl
      · exact .inr (digN_lo _ (by omega))
    have hr' : rdS (putL n ++ x) ((0 : Nat) : Int) = (n, ((putL n).length : Int), 0) := hr
    rw [stp_N h0, nmT, hr']
    rfl
  · simp only at h1 h2 h3
    subst h1 h2
    have hw : wr (4, 0, s, z) = 34 :: (qbL s ++ [34]) := rfl
    rw [hw]
    refine ⟨?_, by simp⟩
    have hb := back_plain [] x s h3
    rw [List.nil_append, List.length_nil] at hb
    rw [stp_T (by rfl), txT, hb]
    simp
theorem white_run (x : List UInt8) : ∀ (g p : List UInt8), (∀ j, j < g.length → isW (byt g j) = true) → Scan (p ++ (g ++ x)) p.length [] (p.length + g.length) := by
  intro g
  induction g with
  | nil => intro p _; exact .nil _
  | cons c g ih =>
    intro p hg
    have h0 := hg 0 (by simp)
    have h1 : stp (p ++ (c :: g ++ x)) p.length = (none, ((p.length + 1 : Nat) : Int), 0) := by
      have hb : byt (p ++ (c :: g ++ x)) p.length = byt (c :: g) 0 := by rw [byt_app_0]; rfl
      exact stp_W (by rw [hb]; exact h0)
    have h2 := ih (p ++ [c]) (fun j hj => by have := hg (j + 1) (by simpa using hj); exact this)
    rw [List.append_assoc, List.length_append, List.length_singleton] at h2
    have h3 := Scan.cons (o := none) (by rw [List.length_append]; simp) h1 (show Scan (p ++ (c :: g ++ x)) (p.length + 1) [] (p.length + 1 + g.length) from h2)
    rw [show p.length + (c :: g).length = p.length + 1 + g.length by rw [List.length_cons]; omega]
    exact h3
/-- what is written of tokens, with white space behind each -/
def txt (g : List UInt8) (ts : List Tok) : List UInt8 := (ts.map fun t => wr t ++ g).flatten
theorem txt_app (g : List UInt8) (a b : List Tok) : txt g (a ++ b) = txt g a ++ txt g b := by simp [txt]
theorem txt_one (g : List UInt8) (t : Tok) : txt g [t] = wr t ++ g := by simp [txt]
theorem txt_len (g : List UInt8) (L : Nat) : ∀ ts : List Tok, (∀ t ∈ ts, t.2.2.1.length ≤ L) → (txt g ts).length ≤ ts.length * (6 * L + 30 + g.length) := by
  intro ts
  induction ts with
  | nil => intro _; simp [txt]
  | cons t r ih =>
    intro h
    have h1 := ih fun u hu => h u (List.mem_cons_of_mem _ hu)
    have h2 := wr_len (h t (List.mem_cons_self ..))
    rw [show t :: r = [t] ++ r from rfl, txt_app, txt_one, List.length_append, List.length_append, List.length_append, List.length_singleton, Nat.add_mul, Nat.one_mul]
    omega
theorem scan_txt (g : List UInt8) (hg : ∀ j, j < g.length → isW (byt g j) = true) (hg0 : 0 < g.length) : ∀ (ts : List Tok), (∀ t ∈ ts, okT t) → ∀ p : List UInt8, ∃ us, Scan (p ++ txt g ts) p.length us (p ++ txt g ts).length ∧ sameL false ts us := by
  intro ts
  induction ts with
  | nil => intro _ p; exact ⟨[], by simp [txt]; exact .nil _, trivial⟩
  | cons t r ih =>
    intro hok p
    have e : txt g (t :: r) = wr t ++ (g ++ txt g r) := by rw [show t :: r = [t] ++ r from rfl, txt_app, txt_one, List.append_assoc]
    obtain ⟨h1, h2⟩ := stp_wr (hok t (List.mem_cons_self ..)) (x := g ++ txt g r) (by rw [byt_app_l _ _ _ hg0]; exact hg 0 hg0)
    have h3 := stp_shift p (wr t ++ (g ++ txt g r)) 0 (by rw [List.length_append]; omega)
    rw [h1] at h3
    have h4 : stp (p ++ (wr t ++ (g ++ txt g r))) p.length = (some (shT p.length (t.1, t.2.1, t.2.2.1, 0)), (((p ++ wr t).length : Nat) : Int), 0) := by
      have := h3
      rw [Nat.add_zero] at this
      rw [this]
      rw [Prod.ext_iff, Prod.ext_iff]
      exact ⟨rfl, by simp only [List.length_append]; omega, rfl⟩
    have h5 := white_run (txt g r) g (p ++ wr t) hg
    obtain ⟨us, h6, h7⟩ := ih (fun u hu => hok u (List.mem_cons_of_mem _ hu)) (p ++ wr t ++ g)
    have e2 : p ++ wr t ++ (g ++ txt g r) = p ++ (wr t ++ (g ++ txt g r)) := by simp
    have e3 : p ++ wr t ++ g ++ txt g r = p ++ (wr t ++ (g ++ txt g r)) := by simp
    rw [e2] at h5
    rw [e3] at h6
    rw [show (p ++ wr t).length + g.length = (p ++ wr t ++ g).length by simp only [List.length_append]] at h5
    rw [e]
    refine ⟨shT p.length (t.1, t.2.1, t.2.2.1, 0) :: us, ?_, ⟨⟨rfl, rfl, rfl, fun h => by cases h⟩, h7⟩⟩
    have := Scan.cons (by simp only [List.length_append]; omega) h4 (h5.trans h6)
    exact this
/-- tokens that are written are scanned as they were -/
theorem back_S (g : List UInt8) (hg : ∀ j, j < g.length → isW (byt g j) = true) (hg0 : 0 < g.length) (ts : List Tok) (hok : ∀ t ∈ ts, okT t) :
    (65536 < (txt g ts).length ∧ scnS (txt g ts) = ([], 0, 2)) ∨ (∃ us, scnS (txt g ts) = (us, 0, 0) ∧ sameL false ts us) := by
  by_cases hl : 65536 < (txt g ts).length
  · exact .inl ⟨hl, by rw [scnS, if_pos hl]⟩
  · obtain ⟨us, h1, h2⟩ := scan_txt g hg hg0 ts hok []
    rw [List.nil_append, List.length_nil] at h1
    refine .inr ⟨us, ?_, h2⟩
    rw [scnS, if_neg hl, h1.scn, scn_end (Nat.le_refl _), consR, if_pos rfl, List.append_nil]
end Go.Proofs.YthokaeaefmajjaaDoor.Sc
