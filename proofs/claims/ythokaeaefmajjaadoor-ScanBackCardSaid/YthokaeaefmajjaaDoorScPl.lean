import Derived.Test.YthokaeaefmajjaaDoorChPl6
import Derived.Test.YthokaeaefmajjaaDoorNuPl2
/- Plain facts on tokens; no run of the program in this text. -/
namespace Go.Proofs.YthokaeaefmajjaaDoor.Sc
open Go.RowKit
open Go.Proofs.YthokaeaefmajjaaDoor.Utf
open Go.Proofs.YthokaeaefmajjaaDoor.Ch (readS readS_in readS_out readL readL_facts begins_plain again_plain back_plain bad_plain qbL)
open Go.Proofs.YthokaeaefmajjaaDoor.Nu

/-- a token: its kind, its number, its text, its place -/
abbrev Tok := Int × Int × List UInt8 × Int
def isW (c : Int) : Bool := decide (c = 32 ∨ c = 9 ∨ c = 10 ∨ c = 13)
def isMk (c : Int) : Bool := decide (c = 123 ∨ c = 125 ∨ c = 91 ∨ c = 93 ∨ c = 58 ∨ c = 44)
def isNm (c : Int) : Bool := decide (c = 45 ∨ (48 ≤ c ∧ c ≤ 57))
def isPart (c : Int) : Bool := decide ((97 ≤ c ∧ c ≤ 122) ∨ (65 ≤ c ∧ c ≤ 90) ∨ (48 ≤ c ∧ c ≤ 57) ∨ c = 95)
theorem isW_iff (c : Int) : isW c = true ↔ (c = 32 ∨ c = 9 ∨ c = 10 ∨ c = 13) := by simp [isW]
theorem isMk_iff (c : Int) : isMk c = true ↔ (c = 123 ∨ c = 125 ∨ c = 91 ∨ c = 93 ∨ c = 58 ∨ c = 44) := by simp [isMk]
theorem isNm_iff (c : Int) : isNm c = true ↔ (c = 45 ∨ (48 ≤ c ∧ c ≤ 57)) := by simp [isNm]
theorem isPart_iff (c : Int) : isPart c = true ↔ ((97 ≤ c ∧ c ≤ 122) ∨ (65 ≤ c ∧ c ≤ 90) ∨ (48 ≤ c ∧ c ≤ 57) ∨ c = 95) := by simp [isPart]
theorem bool_no {b : Bool} {p : Prop} (h : b = true ↔ p) (hn : ¬ p) : b = false := by cases b with
  | false => rfl
  | true => exact absurd (h.1 rfl) hn

def wTrue : List UInt8 := [116, 114, 117, 101]
def wFalse : List UInt8 := [102, 97, 108, 115, 101]
def wNull : List UInt8 := [110, 117, 108, 108]
/-- is a word at a place? -/
def hasW (l : List UInt8) (k : Nat) (w : List UInt8) : Prop := (l.drop k).take w.length = w ∧ isPart (byt l (k + w.length)) = false
instance (l : List UInt8) (k : Nat) (w : List UInt8) : Decidable (hasW l k w) := by unfold hasW; infer_instance
def wrd (l : List UInt8) (k : Nat) (w : List UInt8) : Option Tok × Int × Int :=
  if hasW l k w then (some (2, 0, w, (k : Int)), ((k + w.length : Nat) : Int), 0) else (none, (k : Int), 40)
def txT (l : List UInt8) (k : Nat) : Option Tok × Int × Int :=
  if (readS l k).2.2 = 0 then (some (4, 0, (readS l k).1, (k : Int)), (readS l k).2.1, 0) else (none, (readS l k).2.1, (readS l k).2.2)
def nmT (l : List UInt8) (k : Nat) : Option Tok × Int × Int :=
  if (rdS l k).2.2 = 0 then (some (3, (rdS l k).1, [], (k : Int)), (rdS l k).2.1, 0) else (none, (rdS l k).2.1, (rdS l k).2.2)
/-- what begins at a place within a text: a token or none, the place behind it, why not -/
def stp (l : List UInt8) (k : Nat) : Option Tok × Int × Int :=
  if isW (byt l k) = true then (none, ((k + 1 : Nat) : Int), 0)
  else if isMk (byt l k) = true then (some (1, 0, [l.getD k 0], (k : Int)), ((k + 1 : Nat) : Int), 0)
  else if byt l k = 34 then txT l k
  else if isNm (byt l k) = true then nmT l k
  else if byt l k = 116 then wrd l k wTrue
  else if byt l k = 102 then wrd l k wFalse
  else if byt l k = 110 then wrd l k wNull
  else (none, (k : Int), 40)

def consR (ts : List Tok) (r : List Tok × Int × Int) : List Tok × Int × Int := if r.2.2 = 0 then (ts ++ r.1, r.2.1, 0) else r
theorem consR_nil (r : List Tok × Int × Int) : consR [] r = r := by
  unfold consR
  split
  · rename_i h; rw [Prod.ext_iff, Prod.ext_iff]; exact ⟨rfl, rfl, h.symm⟩
  · rfl
theorem consR_app (a b : List Tok) (r : List Tok × Int × Int) : consR (a ++ b) r = consR a (consR b r) := by
  unfold consR
  by_cases h : r.2.2 = 0
  · rw [if_pos h, if_pos h, if_pos rfl, List.append_assoc]
  · rw [if_neg h, if_neg h, if_neg h]
def scnF (l : List UInt8) : Nat → Nat → List Tok × Int × Int
  | 0, _ => ([], 0, 0)
  | f + 1, k => if k < l.length then (if (stp l k).2.2 = 0 then consR (stp l k).1.toList (scnF l f (stp l k).2.1.toNat) else ([], (stp l k).2.1, (stp l k).2.2)) else ([], 0, 0)
def scn (l : List UInt8) (k : Nat) : List Tok × Int × Int := scnF l (l.length - k) k
/-- what Tokens tells of a text -/
def scnS (l : List UInt8) : List Tok × Int × Int := if 65536 < l.length then ([], 0, 2) else scn l 0

theorem readS_ok_le {l : List UInt8} {k : Nat} (h : (readS l k).2.2 = 0) : ∃ m : Nat, (readS l k).2.1 = m ∧ k < m ∧ m ≤ l.length := by
  rcases hr : readS l k with ⟨t, n, e⟩
  rw [hr] at h
  simp only at h
  subst h
  obtain ⟨_, _, h3, h4, h5, _⟩ := again_plain l k t n hr
  exact ⟨n.toNat, by show n = _; omega, by omega, by omega⟩
theorem readS_place {l : List UInt8} {k : Nat} (hk : k < l.length) : (0 ≤ (readS l k).2.1 ∧ (readS l k).2.1 ≤ l.length) := by
  by_cases hb : byt l k = 34
  · rw [readS_in hk hb]
    obtain ⟨f1, _, _, f4⟩ := readL_facts (l.drop (k + 1))
    rw [List.length_drop] at f1 f4
    split
    · rename_i h
      rcases f4 with f4 | f4 | f4
      · omega
      · omega
      · simp only; omega
    · simp only; omega
  · rw [readS_out (.inr (.inr (by rw [Int.toNat_natCast]; exact hb)))]
    simp only; omega
theorem rdN_ok_le {l : List UInt8} {k : Nat} (hk : k < l.length) (h : (rdS l k).2.2 = 0) : ∃ m : Nat, (rdS l k).2.1 = m ∧ k < m ∧ m ≤ l.length := by
  have e : rdS l k = rdN l k := by rw [rdS, if_neg (by omega), Int.toNat_natCast]
  rw [e] at h ⊢
  unfold rdN at h ⊢
  split
  · rename_i hb; rw [if_pos hb] at h; simp at h
  · rename_i hb
    have h1 := fst_le l k hk
    have h2 := runL_le l (fstN l k) h1.2
    have h3 : runL l (fstN l k) ≠ 0 := fun h => hb (.inl h)
    exact ⟨_, rfl, by omega, h2⟩
theorem wrd_ok_le {l : List UInt8} {k : Nat} {w : List UInt8} (hw : w ≠ []) (h : (wrd l k w).2.2 = 0) : ∃ m : Nat, (wrd l k w).2.1 = m ∧ k < m ∧ m ≤ l.length := by
  unfold wrd at h ⊢
  split
  · rename_i hh
    have h1 := congrArg List.length hh.1
    have h2 : w.length ≠ 0 := fun h => hw (List.eq_nil_of_length_eq_zero h)
    rw [List.length_take, List.length_drop] at h1
    exact ⟨_, rfl, by omega, by omega⟩
  · rename_i hh; rw [if_neg hh] at h; simp at h
theorem wrd_place (l : List UInt8) (k : Nat) (w : List UInt8) (h : (wrd l k w).2.2 ≠ 0) : wrd l k w = (none, (k : Int), 40) := by
  unfold wrd at h ⊢
  split
  · rename_i hh; rw [if_pos hh] at h; simp at h
  · rfl

theorem stp_ok {l : List UInt8} {k : Nat} (hk : k < l.length) (h : (stp l k).2.2 = 0) : ∃ m : Nat, (stp l k).2.1 = m ∧ k < m ∧ m ≤ l.length := by
  unfold stp at h ⊢
  split
  · exact ⟨k + 1, rfl, by omega, by omega⟩
  · rename_i c1; rw [if_neg c1] at h
    split
    · exact ⟨k + 1, rfl, by omega, by omega⟩
    · rename_i c2; rw [if_neg c2] at h
      split
      · rename_i c3; rw [if_pos c3] at h
        unfold txT at h ⊢
        by_cases c : (readS l k).2.2 = 0
        · rw [if_pos c]; exact readS_ok_le c
        · rw [if_neg c] at h; exact absurd h c
      · rename_i c3; rw [if_neg c3] at h
        split
        · rename_i c4; rw [if_pos c4] at h
          unfold nmT at h ⊢
          by_cases c : (rdS l k).2.2 = 0
          · rw [if_pos c]; exact rdN_ok_le hk c
          · rw [if_neg c] at h; exact absurd h c
        · rename_i c4; rw [if_neg c4] at h
          split
          · rename_i c5; rw [if_pos c5] at h; exact wrd_ok_le (by decide) h
          · rename_i c5; rw [if_neg c5] at h
            split
            · rename_i c6; rw [if_pos c6] at h; exact wrd_ok_le (by decide) h
            · rename_i c6; rw [if_neg c6] at h
              split
              · rename_i c7; rw [if_pos c7] at h; exact wrd_ok_le (by decide) h
              · rename_i c7; rw [if_neg c7] at h; simp at h
theorem stp_place {l : List UInt8} {k : Nat} (hk : k < l.length) : 0 ≤ (stp l k).2.1 ∧ (stp l k).2.1 ≤ l.length := by
  by_cases h : (stp l k).2.2 = 0
  · obtain ⟨m, h1, h2, h3⟩ := stp_ok hk h
    rw [h1]; omega
  · unfold stp at h ⊢
    split
    · simp only; omega
    · rename_i c1; rw [if_neg c1] at h
      split
      · simp only; omega
      · rename_i c2; rw [if_neg c2] at h
        split
        · unfold txT
          have := readS_place (l := l) hk
          split <;> exact this
        · rename_i c3; rw [if_neg c3] at h
          split
          · unfold nmT
            have h1 := rdS_place l k
            split <;> (simp only; omega)
          · rename_i c4; rw [if_neg c4] at h
            split
            · rename_i c5; rw [if_pos c5] at h; rw [wrd_place _ _ _ h]; simp only; omega
            · rename_i c5; rw [if_neg c5] at h
              split
              · rename_i c6; rw [if_pos c6] at h; rw [wrd_place _ _ _ h]; simp only; omega
              · rename_i c6; rw [if_neg c6] at h
                split
                · rename_i c7; rw [if_pos c7] at h; rw [wrd_place _ _ _ h]; simp only; omega
                · simp only; omega

theorem scnF_fuel (l : List UInt8) : ∀ f g k, l.length - k ≤ f → l.length - k ≤ g → scnF l f k = scnF l g k := by
  intro f
  induction f with
  | zero =>
    intro g k h1 h2
    cases g with
    | zero => rfl
    | succ g => rw [scnF, scnF, if_neg (by omega)]
  | succ f ih =>
    intro g k h1 h2
    cases g with
    | zero => rw [scnF, scnF, if_neg (by omega)]
    | succ g =>
      rw [scnF, scnF]
      by_cases hk : k < l.length
      · rw [if_pos hk, if_pos hk]
        by_cases he : (stp l k).2.2 = 0
        · obtain ⟨m, h3, h4, h5⟩ := stp_ok hk he
          rw [if_pos he, if_pos he, h3, Int.toNat_natCast, ih g m (by omega) (by omega)]
        · rw [if_neg he, if_neg he]
      · rw [if_neg hk, if_neg hk]
theorem scn_end {l : List UInt8} {k : Nat} (h : l.length ≤ k) : scn l k = ([], 0, 0) := by
  rw [scn, show l.length - k = 0 by omega, scnF]
theorem scn_err {l : List UInt8} {k : Nat} (hk : k < l.length) (h : (stp l k).2.2 ≠ 0) : scn l k = ([], (stp l k).2.1, (stp l k).2.2) := by
  rw [scn, show l.length - k = (l.length - k - 1) + 1 by omega, scnF, if_pos hk, if_neg h]
theorem scn_go {l : List UInt8} {k m : Nat} {o : Option Tok} (hk : k < l.length) (h : stp l k = (o, (m : Int), 0)) : scn l k = consR o.toList (scn l m) := by
  rw [scn, show l.length - k = (l.length - k - 1) + 1 by omega, scnF, if_pos hk, if_pos (by rw [h]), h]
  have := stp_ok hk (by rw [h])
  rw [h] at this
  obtain ⟨m', e, h4, h5⟩ := this
  simp only at e
  rw [scn]
  simp only [Int.toNat_natCast]
  rw [scnF_fuel l (l.length - k - 1) (l.length - m) m (by omega) (by omega)]

/-- from a place on tokens are scanned, to a place -/
inductive Scan (l : List UInt8) : Nat → List Tok → Nat → Prop
  | nil (k : Nat) : Scan l k [] k
  | cons {k m n : Nat} {o : Option Tok} {ts : List Tok} : k < l.length → stp l k = (o, (m : Int), 0) → Scan l m ts n → Scan l k (o.toList ++ ts) n
theorem Scan.trans {l : List UInt8} {k m n : Nat} {ts us : List Tok} (h1 : Scan l k ts m) (h2 : Scan l m us n) : Scan l k (ts ++ us) n := by
  induction h1 with
  | nil k => exact h2
  | cons hk hs _ ih => rw [List.append_assoc]; exact .cons hk hs (ih h2)
theorem Scan.one {l : List UInt8} {k m : Nat} {o : Option Tok} (hk : k < l.length) (h : stp l k = (o, (m : Int), 0)) : Scan l k o.toList m := by
  have := Scan.cons hk h (.nil m)
  rwa [List.append_nil] at this
theorem Scan.snoc {l : List UInt8} {k m n : Nat} {o : Option Tok} {ts : List Tok} (h1 : Scan l k ts m) (hm : m < l.length) (h : stp l m = (o, (n : Int), 0)) : Scan l k (ts ++ o.toList) n := h1.trans (.one hm h)
theorem Scan.scn {l : List UInt8} {k m : Nat} {ts : List Tok} (h : Scan l k ts m) : scn l k = consR ts (scn l m) := by
  induction h with
  | nil k => rw [consR_nil]
  | cons hk hs _ ih => rw [scn_go hk hs, ih, ← consR_app]
theorem Scan.le {l : List UInt8} {k m : Nat} {ts : List Tok} (h : Scan l k ts m) : k ≤ m ∧ ts.length ≤ m - k ∧ (k ≤ l.length → m ≤ l.length) := by
  induction h with
  | nil k => simp
  | cons hk hs _ ih =>
    rename_i k m n o ts _
    have := stp_ok hk (by rw [hs])
    rw [hs] at this
    obtain ⟨m', e, h4, h5⟩ := this
    simp only at e
    have : o.toList.length ≤ 1 := by cases o <;> simp
    rw [List.length_append]
    omega
theorem scn_Scan (l : List UInt8) : ∀ f k, l.length - k ≤ f → k ≤ l.length → (scn l k).2.2 = 0 → Scan l k (scn l k).1 l.length ∧ (scn l k).2.1 = 0 := by
  intro f
  induction f with
  | zero =>
    intro k h1 h2 _
    obtain rfl : k = l.length := by omega
    rw [scn_end (Nat.le_refl _)]
    exact ⟨.nil _, rfl⟩
  | succ f ih =>
    intro k h1 h2 h3
    by_cases hk : k < l.length
    · by_cases he : (stp l k).2.2 = 0
      · obtain ⟨m, h4, h5, h6⟩ := stp_ok hk he
        have hs : stp l k = ((stp l k).1, (m : Int), 0) := by rw [Prod.ext_iff, Prod.ext_iff]; exact ⟨rfl, h4, he⟩
        rw [scn_go hk hs] at h3 ⊢
        have he2 : (scn l m).2.2 = 0 := by
          unfold consR at h3
          by_cases h : (scn l m).2.2 = 0
          · exact h
          · rw [if_neg h] at h3; exact h3
        obtain ⟨h7, h8⟩ := ih m (by omega) h6 he2
        rw [consR, if_pos he2]
        exact ⟨.cons hk hs h7, h8⟩
      · rw [scn_err hk he] at h3; exact absurd h3 he
    · obtain rfl : k = l.length := by omega
      rw [scn_end (Nat.le_refl _)]
      exact ⟨.nil _, rfl⟩
theorem scnS_Scan {l : List UInt8} (h : (scnS l).2.2 = 0) : l.length ≤ 65536 ∧ scnS l = scn l 0 ∧ Scan l 0 (scnS l).1 l.length ∧ (scnS l).2.1 = 0 := by
  unfold scnS at h ⊢
  by_cases hl : 65536 < l.length
  · rw [if_pos hl] at h; simp at h
  · rw [if_neg hl] at h ⊢
    exact ⟨by omega, rfl, scn_Scan l _ 0 (Nat.le_refl _) (by omega) h⟩
/-- of a fault: no tokens, and the place lies in the text -/
theorem scn_bad (l : List UInt8) : ∀ f k, l.length - k ≤ f → (scn l k).2.2 ≠ 0 → (scn l k).1 = [] ∧ 0 ≤ (scn l k).2.1 ∧ (scn l k).2.1 ≤ l.length := by
  intro f
  induction f with
  | zero => intro k h1 h; rw [scn_end (by omega)] at h; exact absurd rfl h
  | succ f ih =>
    intro k h1 h
    by_cases hk : k < l.length
    · by_cases he : (stp l k).2.2 = 0
      · obtain ⟨m, h4, h5, h6⟩ := stp_ok hk he
        have hs : stp l k = ((stp l k).1, (m : Int), 0) := by rw [Prod.ext_iff, Prod.ext_iff]; exact ⟨rfl, h4, he⟩
        rw [scn_go hk hs] at h ⊢
        have he2 : (scn l m).2.2 ≠ 0 := by
          unfold consR at h
          by_cases h2 : (scn l m).2.2 = 0
          · rw [if_pos h2] at h; exact absurd rfl h
          · exact h2
        rw [consR, if_neg he2]
        exact ih m (by omega) he2
      · rw [scn_err hk he]
        exact ⟨rfl, stp_place hk⟩
    · rw [scn_end (by omega)] at h; exact absurd rfl h
theorem scnS_bad {l : List UInt8} (h : (scnS l).2.2 ≠ 0) : (scnS l).1 = [] ∧ 0 ≤ (scnS l).2.1 ∧ (scnS l).2.1 ≤ l.length := by
  unfold scnS at h ⊢
  by_cases hl : 65536 < l.length
  · rw [if_pos hl]; exact ⟨rfl, by simp, by simp⟩
  · rw [if_neg hl] at h ⊢; exact scn_bad l _ 0 (Nat.le_refl _) h
end Go.Proofs.YthokaeaefmajjaaDoor.Sc
