import Derived.Test.YtbepnjgbkfidiaaChPl
import Derived.Test.YtbepnjgbkfidiaaNuPl
/- Plain facts on tokens; no run of the program in this text. -/
namespace Go.Proofs.Ytbepnjgbkfidiaa.Sc
open Go.RowKit
open Go.Proofs.Ytbepnjgbkfidiaa.Utf
open Go.Proofs.Ytbepnjgbkfidiaa.Ch (readS readS_in readS_out readL readL_facts begins_plain again_plain back_plain bad_plain qbL)
open Go.Proofs.Ytbepnjgbkfidiaa.Nu

/-- a token: its kind, its number, its text, its place -/
abbrev Tok := Int × Int × List UInt8 × Int
def isW (c : Int) : Bool := decide (c = 32 ∨ c = 9 ∨ c = 10 ∨ c = 13)
def isMk (c : Int) : Bool := decide (c = 123 ∨ c = 125 ∨ c = 91 ∨ c = 93 ∨ c = 58 ∨ c = 44)
def isNm (c : Int) : Bool := decide (c = 45 ∨ (48 ≤ c ∧ c ≤ 57))
def isPart (c : Int) : Bool := decide ((97 ≤ c ∧ c ≤ 122) ∨ (65 ≤ c ∧ c ≤ 90) ∨ (48 ≤ c ∧ c ≤ 57) ∨ c = 95)
theorem isW_iff (c : Int) : isW c = true ↔ (c = 32 ∨ c = 9 ∨ c = 10 ∨ c = 13) := by simp [isW]
theorem isMk_iff (c : Int) : isMk c = true ↔ (c = 123 ∨ c = 125 ∨ c = 91 ∨ c = 93 ∨ c = 58 ∨ c = 44) := by simp [isMk]
theorem isNm_iff (c : Int) : isNm c = true ↔ (c = 45 ∨ (48 ≤ c ∧ c ≤ 57)) := by simp [isNm]
theorem isPart_iff (c : Int) : isPart c = true ↔ ((97 ≤ c ∧ c ≤ 122) ∨ (65 ≤ c ∧ c ≤ 90) ∨ (48 ≤ c ∧ c ≤ 57) ∨ c = 95) := by simp [isPart]
theorem bool_no {b : Bool} {p : Prop} (h : b = true ↔ p) (hn : ¬ p) : b = false := by cases b with
  | false => rfl
  | true => exact absurd (h.1 rfl) hn

def wTrue : List UInt8 := [116, 114, 117, 101]
def wFalse : List UInt8 := [102, 97, 108, 115, 101]
def wNull : List UInt8 := [110, 117, 108, 108]
/-- is a word at a place? -/
def hasW (l : List UInt8) (k : Nat) (w : List UInt8) : Prop := (l.drop k).take w.length = w ∧ isPart (byt l (k + w.length)) = false
instance (l : List UInt8) (k : Nat) (w : List UInt8) : Decidable (hasW l k w) := by unfold hasW; infer_instance
def wrd (l : List UInt8) (k : Nat) (w : List UInt8) : Option Tok × Int × Int :=
  if hasW l k w then (some (2, 0, w, (k : Int)), ((k + w.length : Nat) : Int), 0) else (none, (k : Int), 40)
def txT (l : List UInt8) (k : Nat) : Option Tok × Int × Int :=
  if (readS l k).2.2 = 0 then (some (4, 0, (readS l k).1, (k : Int)), (readS l k).2.1, 0) else (none, (readS l k).2.1, (readS l k).2.2)
def nmT (l : List UInt8) (k : Nat) : Option Tok × Int × Int :=
  if (rdS l k).2.2 = 0 then (some (3, (rdS l k).1, [], (k : Int)), (rdS l k).2.1, 0) else (none, (rdS l k).2.1, (rdS l k).2.2)
/-- what begins at a place within a text: a token or none, the place behind it, why not -/
def stp (l : List UInt8) (k : Nat) : Option Tok × Int × Int :=
  if isW (byt l k) = true then (none, ((k + 1 : Nat) : Int), 0)
  else if isMk (byt l k) = true then (some (1, 0, [l.getD k 0], (k : Int)), ((k + 1 : Nat) : Int), 0)
  else if byt l k = 34 then txT l k
  else if isNm (byt l k) = true then nmT l k
  else if byt l k = 116 then wrd l k wTrue
  else if byt l k = 102 then wrd l k wFalse
  else if byt l k = 110 then wrd l k wNull
  else (none, (k : Int), 40)

def consR (ts : List Tok) (r : List Tok × Int × Int) : List Tok × Int × Int := if r.2.2 = 0 then (ts ++ r.1, r.2.1, 0) else r
theorem consR_nil (r : List Tok × Int × Int) : consR [] r = r := by
  unfold consR
  split
  · rename_i h; rw [Prod.ext_iff, Prod.ext_iff]; exact ⟨rfl, rfl, h.symm⟩
  · rfl
theorem consR_app (a b : List Tok) (r : List Tok × Int × Int) : consR (a ++ b) r = consR a (consR b r) := by
  unfold consR
  by_cases h : r.2.2 = 0
  · rw [if_pos h, if_pos h, if_pos rfl, List.append_assoc]
  · rw [if_neg h, if_neg h, if_neg h]
def scnF (l : List UInt8) : Nat → Nat → List Tok × Int × Int
  | 0, _ => ([], 0, 0)
  | f + 1, k => if k < l.length then (if (stp l k).2.2 = 0 then consR (stp l k).1.toList (scnF l f (stp l k).2.1.toNat) else ([], (stp l k).2.1, (stp l k).2.2)) else ([], 0, 0)
def scn (l : List UInt8) (k : Nat) : List Tok × Int × Int := scnF l (l.length - k) k
/-- what Tokens tells of a text -/
def scnS (l : List UInt8) : List Tok × Int × Int := if 65536 < l.length then ([], 0, 2) else scn l 0

theorem readS_ok_le {l : List UInt8} {k : Nat} (h : (readS l k).2.2 = 0) : ∃ m : Nat, (readS l k).2.1 = m ∧ k < m ∧ m ≤ l.length := by
  rcases hr : readS l k with ⟨t, n, e⟩
  rw [hr] at h
  simp only at h
  subst h
  obtain ⟨_, _, h3, h4, h5, _⟩ := again_plain l k t n hr
  exact ⟨n.toNat, by show n = _; omega, by omega, by omega⟩
theorem readS_place {l : List UInt8} {k : Nat} (hk : k < l.length) : (0 ≤ (readS l k).2.1 ∧ (readS l k).2.1 ≤ l.length) := by
  by_cases hb : byt l k = 34
  · rw [readS_in hk hb]
    obtain ⟨f1, _, _, f4⟩ := readL_facts (l.drop (k + 1))
    rw [List.length_drop] at f1 f4
    split
    · rename_i h
      rcases f4 with f4 | f4 | f4
      · omega
      · omega
      · simp only; omega
    · simp only; omega
  · rw [readS_out (.inr (.inr (by rw [Int.toNat_natCast]; exact hb)))]
    simp only; omega
theorem rdN_ok_le {l : List UInt8} {k : Nat} (hk : k < l.length) (h : (rdS l k).2.2 = 0) : ∃ m : Nat, (rdS l k).2.1 = m ∧ k < m ∧ m ≤ l.length := by
  have e : rdS l k = rdN l k := by rw [rdS, if_neg (by omega), Int.toNat_natCast]
  rw [e] at h ⊢
  unfold rdN at h ⊢
  split
  · rename_i hb; rw [if_pos hb] at h; simp at h
  · rename_i hb
    have h1 := fst_le l k hk
    have h2 := runL_le l (fstN l k) h1.2
    have h3 : runL l (fstN l k) ≠ 0 := fun h => hb (.inl h)
    exact ⟨_, rfl, by omega, h2⟩
theorem wrd_ok_le {l : List UInt8} {k : Nat} {w : List UInt8} (hw : w ≠ []) (h : (wrd l k w).2.2 = 0) : ∃ m : Nat, (wrd l k w).2.1 = m ∧ k < m ∧ m ≤ l.length := by
  unfold wrd at h ⊢
  split
  · rename_i hh
    have h1 := congrArg List.length hh.1
    have h2 : w.length ≠ 0 := fun h => hw (List.eq_nil_of_length_eq_zero h)
    rw [List.length_take, List.length_drop] at h1
    exact ⟨_, rfl, by omega, by omega⟩
  · rename_i hh; rw [if_neg hh] at h; simp at h
theorem wrd_place (l : List UInt8) (k : Nat) (w : List UInt8) (h : (wrd l k w).2.2 ≠ 0) : wrd l k w = (none, (k : Int), 40) := by
  unfold wrd at h ⊢
  split
  · rename_i hh; rw [if_pos hh] at h; simp at h
  · rfl

theorem stp_ok {l : List UInt8} {k : Nat} (hk : k < l.length) (h : (stp l k).2.2 = 0) : ∃ m : Nat, (stp l k).2.1 = m ∧ k < m ∧ m ≤ l.length := by
  unfold stp at h ⊢
  split
  · exact ⟨k + 1, rfl, by omega, by omega⟩
  · rename_i c1; rw [if_neg c1] at h
    split
    · exact ⟨k + 1, rfl, by omega, by omega⟩
    · rename_i c2; rw [if_neg c2] at h
      split
      · rename_i c3; rw [if_pos c3] at h
        unfold txT at h ⊢
        by_cases c : (readS l k).2.2 = 0
        · rw [if_pos c]; exact readS_ok_le c
        · rw [if_neg c] at h; exact absurd h c
      · rename_i c3; rw [if_neg c3] at h
        split
        · rename_i c4; rw [if_pos c4] at h
          unfold nmT at h ⊢
          by_cases c : (rdS l k).2.2 = 0
          · rw [if_pos c]; exact rdN_ok_le hk c
          · rw [if_neg c] at h; exact absurd h c
        · rename_i c4; rw [if_neg c4] at h
          split
          · rename_i c5; rw [if_pos c5] at h; exact wrd_ok_le (by decide) h
          · rename_i c5; rw [if_neg c5] at h
            split
            · rename_i c6; rw [if_pos c6] at h; exact wrd_ok_le (by decide) h
            · rename_i c6; rw [if_neg c6] at h
              split
              · rename_i c7; rw [if_pos c7] at h; exact wrd_ok_le (by decide) h
              · rename_i c7; rw [if_neg c7] at h; simp at h
theorem stp_place {l : List UInt8} {k : Nat} (hk : k < l.length) : 0 ≤ (stp l k).2.1 ∧ (stp l k).2.1 ≤ l.length := by
  by_cases h : (stp l k).2.2 = 0
  · obtain ⟨m, h1, h2, h3⟩ := stp_ok hk h
    rw [h1]; omega
  · unfold stp at h ⊢
    split
    · simp only; omega
    · rename_i c1; rw [if_neg c1] at h
      split
      · simp only; omega
      · rename_i c2; rw [if_neg c2] at h
        split
        · unfold txT
          have := readS_place (l := l) hk
          split <;> exact this
        · rename_i c3; rw [if_neg c3] at h
          split
          · unfold nmT
            have h1 := rdS_place l k
            split <;> (simp only; omega)
          · rename_i c4; rw [if_neg c4] at h
            split
            · rename_i c5; rw [if_pos c5] at h; rw [wrd_place _ _ _ h]; simp only; omega
            · rename_i c5; rw [if_neg c5] at h
              split
              · rename_i c6; rw [if_pos c6] at h; rw [wrd_place _ _ _ h]; simp only; omega
              · rename_i c6; rw [if_neg c6] at h
                split
                · rename_i c7; rw [if_pos c7] at h; rw [wrd_place _ _ _ h]; simp only; omega
                · simp only; omega

theorem scnF_fuel (l : List UInt8) : ∀ f g k, l.length - k ≤ f → l.length - k ≤ g → scnF l f k = scnF l g k := by
  intro f
  induction f with
  | zero =>
    intro g k h1 h2
    cases g with
    | zero => rfl
    | succ g => rw [scnF, scnF, if_neg (by omega)]
  | succ f ih =>
    intro g k h1 h2
    cases g with
    | zero => rw [scnF, scnF, if_neg (by omega)]
    | succ g =>
      rw [scnF, scnF]
      by_cases hk : k < l.length
      · rw [if_pos hk, if_pos hk]
        by_cases he : (stp l k).2.2 = 0
        · obtain ⟨m, h3, h4, h5⟩ := stp_ok hk he
          rw [if_pos he, if_pos he, h3, Int.toNat_natCast, ih g m (by omega) (by omega)]
        · rw [if_neg he, if_neg he]
      · rw [if_neg hk, if_neg hk]
theorem scn_end {l : List UInt8} {k : Nat} (h : l.length ≤ k) : scn l k = ([], 0, 0) := by
  rw [scn, show l.length - k = 0 by omega, scnF]
theorem scn_err {l : List UInt8} {k : Nat} (hk : k < l.length) (h : (stp l k).2.2 ≠ 0) : scn l k = ([], (stp l k).2.1, (stp l k).2.2) := by
  rw [scn, show l.length - k = (l.length - k - 1) + 1 by omega, scnF, if_pos hk, if_neg h]
theorem scn_go {l : List UInt8} {k m : Nat} {o : Option Tok} (hk : k < l.length) (h : stp l k = (o, (m : Int), 0)) : scn l k = consR o.toList (scn l m) := by
  rw [scn, show l.length - k = (l.length - k - 1) + 1 by omega, scnF, if_pos hk, if_pos (by rw [h]), h]
  have := stp_ok hk (by rw [h])
  rw [h] at this
  obtain ⟨m', e, h4, h5⟩ := this
  simp only at e
  rw [scn]
  simp only [Int.toNat_natCast]
  rw [scnF_fuel l (l.length - k - 1) (l.length - m) m (by omega) (by omega)]

/-- from a place on tokens are scanned, to a place -/
inductive Scan (l : List UInt8) : Nat → List Tok → Nat → Prop
  | nil (k : Nat) : Scan l k [] k
  | cons {k m n : Nat} {o : Option Tok} {ts : List Tok} : k < l.length → stp l k = (o, (m : Int), 0) → Scan l m ts n → Scan l k (o.toList ++ ts) n
theorem Scan.trans {l : List UInt8} {k m n : Nat} {ts us : List Tok} (h1 : Scan l k ts m) (h2 : Scan l m us n) : Scan l k (ts ++ us) n := by
  induction h1 with
  | nil k => exact h2
  | cons hk hs _ ih => rw [List.append_assoc]; exact .cons hk hs (ih h2)
theorem Scan.one {l : List UInt8} {k m : Nat} {o : Option Tok} (hk : k < l.length) (h : stp l k = (o, (m : Int), 0)) : Scan l k o.toList m := by
  have := Scan.cons hk h (.nil m)
  rwa [List.append_nil] at this
theorem Scan.snoc {l : List UInt8} {k m n : Nat} {o : Option Tok} {ts : List Tok} (h1 : Scan l k ts m) (hm : m < l.length) (h : stp l m = (o, (n : Int), 0)) : Scan l k (ts ++ o.toList) n := h1.trans (.one hm h)
theorem Scan.scn {l : List UInt8} {k m : Nat} {ts : List Tok} (h : Scan l k ts m) : scn l k = consR ts (scn l m) := by
  induction h with
  | nil k => rw [consR_nil]
  | cons hk hs _ ih => rw [scn_go hk hs, ih, ← consR_app]
theorem Scan.le {l : List UInt8} {k m : Nat} {ts : List Tok} (h : Scan l k ts m) : k ≤ m ∧ ts.length ≤ m - k ∧ (k ≤ l.length → m ≤ l.length) := by
  induction h with
  | nil k => simp
  | cons hk hs _ ih =>
    rename_i k m n o ts _
    have := stp_ok hk (by rw [hs])
    rw [hs] at this
    obtain ⟨m', e, h4, h5⟩ := this
    simp only at e
    have : o.toList.length ≤ 1 := by cases o <;> simp
    rw [List.length_append]
    omega
theorem scn_Scan (l : List UInt8) : ∀ f k, l.length - k ≤ f → k ≤ l.length → (scn l k).2.2 = 0 → Scan l k (scn l k).1 l.length ∧ (scn l k).2.1 = 0 := by
  intro f
  induction f with
  | zero =>
    intro k h1 h2 _
    obtain rfl : k = l.length := by omega
    rw [scn_end (Nat.le_refl _)]
    exact ⟨.nil _, rfl⟩
  | succ f ih =>
    intro k h1 h2 h3
    by_cases hk : k < l.length
    · by_cases he : (stp l k).2.2 = 0
      · obtain ⟨m, h4, h5, h6⟩ := stp_ok hk he
        have hs : stp l k = ((stp l k).1, (m : Int), 0) := by rw [Prod.ext_iff, Prod.ext_iff]; exact ⟨rfl, h4, he⟩
        rw [scn_go hk hs] at h3 ⊢
        have he2 : (scn l m).2.2 = 0 := by
          unfold consR at h3
          by_cases h : (scn l m).2.2 = 0
          · exact h
          · rw [if_neg h] at h3; exact h3
        obtain ⟨h7, h8⟩ := ih m (by omega) h6 he2
        rw [consR, if_pos he2]
        exact ⟨.cons hk hs h7, h8⟩
      · rw [scn_err hk he] at h3; exact absurd h3 he
    · obtain rfl : k = l.length := by omega
      rw [scn_end (Nat.le_refl _)]
      exact ⟨.nil _, rfl⟩
theorem scnS_Scan {l : List UInt8} (h : (scnS l).2.2 = 0) : l.length ≤ 65536 ∧ scnS l = scn l 0 ∧ Scan l 0 (scnS l).1 l.length ∧ (scnS l).2.1 = 0 := by
  unfold scnS at h ⊢
  by_cases hl : 65536 < l.length
  · rw [if_pos hl] at h; simp at h
  · rw [if_neg hl] at h ⊢
    exact ⟨by omega, rfl, scn_Scan l _ 0 (Nat.le_refl _) (by omega) h⟩
/-- of a fault: no tokens, and the place lies in the text -/
theorem scn_bad (l : List UInt8) : ∀ f k, l.length - k ≤ f → (scn l k).2.2 ≠ 0 → (scn l k).1 = [] ∧ 0 ≤ (scn l k).2.1 ∧ (scn l k).2.1 ≤ l.length := by
  intro f
  induction f with
  | zero => intro k h1 h; rw [scn_end (by omega)] at h; exact absurd rfl h
  | succ f ih =>
    intro k h1 h
    by_cases hk : k < l.length
    · by_cases he : (stp l k).2.2 = 0
      · obtain ⟨m, h4, h5, h6⟩ := stp_ok hk he
        have hs : stp l k = ((stp l k).1, (m : Int), 0) := by rw [Prod.ext_iff, Prod.ext_iff]; exact ⟨rfl, h4, he⟩
        rw [scn_go hk hs] at h ⊢
        have he2 : (scn l m).2.2 ≠ 0 := by
          unfold consR at h
          by_cases h2 : (scn l m).2.2 = 0
          · rw [if_pos h2] at h; exact absurd rfl h
          · exact h2
        rw [consR, if_neg he2]
        exact ih m (by omega) he2
      · rw [scn_err hk he]
        exact ⟨rfl, stp_place hk⟩
    · rw [scn_end (by omega)] at h; exact absurd rfl h
theorem scnS_bad {l : List UInt8} (h : (scnS l).2.2 ≠ 0) : (scnS l).1 = [] ∧ 0 ≤ (scnS l).2.1 ∧ (scnS l).2.1 ≤ l.length := by
  unfold scnS at h ⊢
  by_cases hl : 65536 < l.length
  · rw [if_pos hl]; exact ⟨rfl, by simp, by simp⟩
  · rw [if_neg hl] at h ⊢; exact scn_bad l _ 0 (Nat.le_refl _) h
end Go.Proofs.Ytbepnjgbkfidiaa.Sc
/- Plain facts on tokens: where they lie; two texts behind one another. No run of the program in this text. -/
namespace Go.Proofs.Ytbepnjgbkfidiaa.Sc
open Go.RowKit
open Go.Proofs.Ytbepnjgbkfidiaa.Utf
open Go.Proofs.Ytbepnjgbkfidiaa.Ch (readS readS_in readS_out readL readL_facts begins_plain again_plain back_plain bad_plain qbL)
open Go.Proofs.Ytbepnjgbkfidiaa.Nu

/-- what a step gives: none at white space; else a token at its place, where none stands -/
theorem stp_tok {l : List UInt8} {k : Nat} {m : Int} {o : Option Tok} (h : stp l k = (o, m, 0)) : (o = none ∧ isW (byt l k) = true) ∨ (∃ t, o = some t ∧ t.2.2.2 = (k : Int) ∧ isW (byt l k) = false) := by
  unfold stp at h
  by_cases c1 : isW (byt l k) = true
  · rw [if_pos c1] at h
    exact .inl ⟨(congrArg Prod.fst h).symm, c1⟩
  · have c1' : isW (byt l k) = false := by simpa using c1
    rw [if_neg c1] at h
    refine .inr ?_
    have key : ∀ w, wrd l k w = (o, m, 0) → ∃ t, o = some t ∧ t.2.2.2 = (k : Int) ∧ isW (byt l k) = false := by
      intro w hw
      unfold wrd at hw
      split at hw
      · exact ⟨_, (congrArg Prod.fst hw).symm, rfl, c1'⟩
      · exact absurd (congrArg (fun x => x.2.2) hw) (by simp)
    by_cases c2 : isMk (byt l k) = true
    · rw [if_pos c2] at h
      exact ⟨_, (congrArg Prod.fst h).symm, rfl, c1'⟩
    rw [if_neg c2] at h
    by_cases c3 : byt l k = 34
    · rw [if_pos c3] at h
      unfold txT at h
      split at h
      · exact ⟨_, (congrArg Prod.fst h).symm, rfl, c1'⟩
      · rename_i he; exact absurd (congrArg (fun x => x.2.2) h) he
    rw [if_neg c3] at h
    by_cases c4 : isNm (byt l k) = true
    · rw [if_pos c4] at h
      unfold nmT at h
      split at h
      · exact ⟨_, (congrArg Prod.fst h).symm, rfl, c1'⟩
      · rename_i he; exact absurd (congrArg (fun x => x.2.2) h) he
    rw [if_neg c4] at h
    by_cases c5 : byt l k = 116
    · rw [if_pos c5] at h; exact key _ h
    rw [if_neg c5] at h
    by_cases c6 : byt l k = 102
    · rw [if_pos c6] at h; exact key _ h
    rw [if_neg c6] at h
    by_cases c7 : byt l k = 110
    · rw [if_pos c7] at h; exact key _ h
    rw [if_neg c7] at h
    exact absurd (congrArg (fun x => x.2.2) h) (by simp)

/-- tokens that begin one behind the other from a place on, where no white space stands -/
def asc (l : List UInt8) : Nat → List Tok → Prop
  | _, [] => True
  | k, t :: r => ∃ q : Nat, t.2.2.2 = (q : Int) ∧ k ≤ q ∧ q < l.length ∧ isW (byt l q) = false ∧ asc l (q + 1) r
theorem asc_mono {l : List UInt8} {k m : Nat} {ts : List Tok} (h : asc l m ts) (hk : k ≤ m) : asc l k ts := by
  cases ts with
  | nil => trivial
  | cons t r =>
    obtain ⟨q, h1, h2, h3⟩ := h
    exact ⟨q, h1, by omega, h3⟩
theorem Scan.asc {l : List UInt8} {k n : Nat} {ts : List Tok} (h : Scan l k ts n) : asc l k ts := by
  induction h with
  | nil k => trivial
  | cons hk hs _ ih =>
    rename_i k m n o ts _
    obtain ⟨m', e, h4, h5⟩ := stp_ok hk (by rw [hs])
    rw [hs] at e
    simp only at e
    rcases stp_tok hs with ⟨rfl, _⟩ | ⟨t, rfl, ha, hw⟩
    · exact asc_mono ih (by omega)
    · exact ⟨k, ha, Nat.le_refl _, hk, hw, asc_mono ih (by omega)⟩
theorem asc_at {l : List UInt8} : ∀ {ts : List Tok} {k : Nat}, asc l k ts → ∀ i (h : i < ts.length), ∃ q : Nat, ts[i].2.2.2 = (q : Int) ∧ k ≤ q ∧ q < l.length ∧ isW (byt l q) = false ∧ (∀ (h2 : i + 1 < ts.length), ts[i].2.2.2 < ts[i + 1].2.2.2) := by
  intro ts
  induction ts with
  | nil => intro k _ i h; simp at h
  | cons t r ih =>
    intro k h i hi
    obtain ⟨q, h1, h2, h3, h4, h5⟩ := h
    cases i with
    | zero =>
      refine ⟨q, h1, h2, h3, h4, fun h => ?_⟩
      obtain ⟨q2, g1, g2, _⟩ := ih h5 0 (by simpa using h)
      have e : (t :: r)[0 + 1].2.2.2 = (q2 : Int) := g1
      have e0 : (t :: r)[0].2.2.2 = (q : Int) := h1
      omega
    | succ i =>
      obtain ⟨q2, g1, g2, g3, g4, g5⟩ := ih h5 i (by simpa using hi)
      exact ⟨q2, g1, by omega, g3, g4, fun h => g5 (by simpa using h)⟩

/-! ### so much further on -/
def shT (d : Nat) (t : Tok) : Tok := (t.1, t.2.1, t.2.2.1, t.2.2.2 + (d : Int))
theorem readS_shift (p l : List UInt8) (k : Nat) (hk : k < l.length) (hb : byt l k = 34) : readS (p ++ l) ((p.length + k : Nat) : Int) = ((readS l k).1, (readS l k).2.1 + (p.length : Int), (readS l k).2.2) := by
  have hd : (p ++ l).drop (p.length + k + 1) = l.drop (k + 1) := by
    rw [Nat.add_assoc, ← List.drop_drop, List.drop_left' rfl]
  rw [readS_in (by rw [List.length_append]; omega) (by rw [byt_app_r]; exact hb), readS_in hk hb, hd]
  split <;> (rw [Prod.ext_iff, Prod.ext_iff]; refine ⟨rfl, ?_, rfl⟩; simp only; omega)
theorem accD_shift (p l : List UInt8) (f : Nat) : ∀ r, accD (p ++ l) (p.length + f) r = accD l f r := by
  intro r
  induction r with
  | zero => rfl
  | succ r ih => rw [accD, accD, ih, Nat.add_assoc, byt_app_r]
theorem runL_shift (p l : List UInt8) (f : Nat) : runL (p ++ l) (p.length + f) = runL l f := by
  unfold runL
  rw [← List.drop_drop, List.drop_left' rfl]
theorem rdS_shift (p l : List UInt8) (k : Nat) (hk : k < l.length) : rdS (p ++ l) ((p.length + k : Nat) : Int) = ((rdS l k).1, (rdS l k).2.1 + (p.length : Int), (rdS l k).2.2) := by
  have e1 : rdS (p ++ l) ((p.length + k : Nat) : Int) = rdN (p ++ l) (p.length + k) := by rw [rdS, if_neg (by rw [List.length_append]; omega), Int.toNat_natCast]
  have e2 : rdS l k = rdN l k := by rw [rdS, if_neg (by omega), Int.toNat_natCast]
  have e3 : fstN (p ++ l) (p.length + k) = p.length + fstN l k := by unfold fstN; rw [byt_app_r]; split <;> omega
  have e4 : badN (p ++ l) (p.length + fstN l k) (runL l (fstN l k)) ↔ badN l (fstN l k) (runL l (fstN l k)) := by
    unfold badN
    rw [accD_shift, byt_app_r, Nat.add_assoc, byt_app_r]
  rw [e1, e2]
  unfold rdN
  rw [e3, runL_shift, accD_shift, byt_app_r]
  by_cases hb : badN l (fstN l k) (runL l (fstN l k))
  · rw [if_pos (e4.2 hb), if_pos hb]
    rw [Prod.ext_iff, Prod.ext_iff]; refine ⟨rfl, ?_, rfl⟩; simp only; omega
  · rw [if_neg (fun h => hb (e4.1 h)), if_neg hb]
    rw [Prod.ext_iff, Prod.ext_iff]; refine ⟨rfl, ?_, rfl⟩; simp only; omega
theorem wrd_shift (p l : List UInt8) (k : Nat) (w : List UInt8) : wrd (p ++ l) (p.length + k) w = ((wrd l k w).1.map (shT p.length), (wrd l k w).2.1 + (p.length : Int), (wrd l k w).2.2) := by
  have e : hasW (p ++ l) (p.length + k) w ↔ hasW l k w := by
    unfold hasW
    rw [← List.drop_drop, List.drop_left' rfl, Nat.add_assoc, byt_app_r]
  unfold wrd
  by_cases h : hasW l k w
  · rw [if_pos (e.2 h), if_pos h]
    rw [Prod.ext_iff, Prod.ext_iff]
    refine ⟨?_, by simp only; omega, rfl⟩
    simp only [Option.map_some, shT]
    congr 4
    omega
  · rw [if_neg (fun x => h (e.1 x)), if_neg h]
    rw [Prod.ext_iff, Prod.ext_iff]
    exact ⟨rfl, by simp only; omega, rfl⟩
theorem stp_shift (p l : List UInt8) (k : Nat) (hk : k < l.length) : stp (p ++ l) (p.length + k) = ((stp l k).1.map (shT p.length), (stp l k).2.1 + (p.length : Int), (stp l k).2.2) := by
  have hg : (p ++ l).getD (p.length + k) 0 = l.getD k 0 := by
    rw [List.getD_eq_getElem?_getD, List.getD_eq_getElem?_getD, List.getElem?_append_right (by omega), Nat.add_sub_cancel_left]
  have hat : ((p.length + k : Nat) : Int) = (k : Int) + (p.length : Int) := by omega
  unfold stp
  rw [byt_app_r, hg]
  by_cases c1 : isW (byt l k) = true
  · rw [if_pos c1, if_pos c1]
    rw [Prod.ext_iff, Prod.ext_iff]; exact ⟨rfl, by simp only; omega, rfl⟩
  rw [if_neg c1, if_neg c1]
  by_cases c2 : isMk (byt l k) = true
  · rw [if_pos c2, if_pos c2, hat]
    rw [Prod.ext_iff, Prod.ext_iff]; exact ⟨rfl, by simp only; omega, rfl⟩
  rw [if_neg c2, if_neg c2]
  by_cases c3 : byt l k = 34
  · rw [if_pos c3, if_pos c3]
    unfold txT
    rw [readS_shift p l k hk c3, hat]
    by_cases he : (readS l k).2.2 = 0
    · rw [if_pos he, if_pos he]; rfl
    · rw [if_neg he, if_neg he]; rfl
  rw [if_neg c3, if_neg c3]
  by_cases c4 : isNm (byt l k) = true
  · rw [if_pos c4, if_pos c4]
    unfold nmT
    rw [rdS_shift p l k hk, hat]
    by_cases he : (rdS l k).2.2 = 0
    · rw [if_pos he, if_pos he]; rfl
    · rw [if_neg he, if_neg he]; rfl
  rw [if_neg c4, if_neg c4]
  by_cases c5 : byt l k = 116
  · rw [if_pos c5, if_pos c5]; exact wrd_shift _ _ _ _
  rw [if_neg c5, if_neg c5]
  by_cases c6 : byt l k = 102
  · rw [if_pos c6, if_pos c6]; exact wrd_shift _ _ _ _
  rw [if_neg c6, if_neg c6]
  by_cases c7 : byt l k = 110
  · rw [if_pos c7, if_pos c7]; exact wrd_shift _ _ _ _
  rw [if_neg c7, if_neg c7]
  rw [Prod.ext_iff, Prod.ext_iff]; exact ⟨rfl, by simp only; omega, rfl⟩
/-- a text with another one ahead of it -/
theorem scn_shift (p l : List UInt8) : ∀ f k, l.length - k ≤ f → scn (p ++ l) (p.length + k) = ((scn l k).1.map (shT p.length), if (scn l k).2.2 = 0 then (scn l k).2.1 else (scn l k).2.1 + (p.length : Int), (scn l k).2.2) := by
  intro f
  induction f with
  | zero =>
    intro k h
    rw [scn_end (by rw [List.length_append]; omega), scn_end (by omega)]
    rfl
  | succ f ih =>
    intro k h
    by_cases hk : k < l.length
    · have hs := stp_shift p l k hk
      have hk2 : p.length + k < (p ++ l).length := by rw [List.length_append]; omega
      by_cases he : (stp l k).2.2 = 0
      · obtain ⟨m, h4, h5, h6⟩ := stp_ok hk he
        have hst : stp l k = ((stp l k).1, (m : Int), 0) := by rw [Prod.ext_iff, Prod.ext_iff]; exact ⟨rfl, h4, he⟩
        have hst2 : stp (p ++ l) (p.length + k) = ((stp l k).1.map (shT p.length), ((p.length + m : Nat) : Int), 0) := by
          rw [hs, h4, he]
          rw [Prod.ext_iff, Prod.ext_iff]; exact ⟨rfl, by simp only; omega, rfl⟩
        rw [scn_go hk hst, scn_go hk2 hst2, ih m (by omega)]
        unfold consR
        by_cases h0 : (scn l m).2.2 = 0
        · rw [if_pos h0, if_pos h0, if_pos h0, if_pos rfl]
          rw [Prod.ext_iff, Prod.ext_iff]
          refine ⟨?_, rfl, rfl⟩
          simp only [List.map_append]
          cases (stp l k).1 <;> rfl
        · rw [if_neg h0, if_neg h0, if_neg h0, if_neg h0]
      · rw [scn_err hk he, scn_err hk2 (by rw [hs]; exact he), hs, if_neg he]
        rfl
    · rw [scn_end (by rw [List.length_append]; omega), scn_end (by omega)]
      rfl

/-! ### what stands behind white space means nothing -/
theorem isW_not {c : Int} (h : isW c = true) : isD c = false ∧ c ≠ 46 ∧ c ≠ 101 ∧ c ≠ 69 ∧ isPart c = false := by
  have := (isW_iff c).1 h
  refine ⟨isD_no (by omega), by omega, by omega, by omega, bool_no (isPart_iff c) (by omega)⟩
theorem wrd_loc {l x : List UInt8} {k : Nat} {w : List UInt8} {o : Option Tok} {m : Int} (hw : w ≠ []) (h : wrd l k w = (o, m, 0)) (hx : isW (byt x 0) = true) : wrd (l ++ x) k w = (o, m, 0) := by
  obtain ⟨m', e1, e2, e3⟩ := wrd_ok_le hw (by rw [h])
  unfold wrd at h
  by_cases hh : hasW l k w
  · rw [if_pos hh] at h
    have e4 : ((k + w.length : Nat) : Int) = m := congrArg (fun x => x.2.1) h
    unfold wrd at e1
    rw [if_pos hh] at e1
    simp only at e1
    obtain ⟨h1, h2⟩ := hh
    unfold wrd
    rw [if_pos ?_, h]
    refine ⟨?_, ?_⟩
    · rw [List.drop_append_of_le_length (by omega), List.take_append_of_le_length (by rw [List.length_drop]; omega)]
      exact h1
    · rcases Nat.lt_or_ge (k + w.length) l.length with g | g
      · rw [byt_app_l _ _ _ g]; exact h2
      · rw [show k + w.length = l.length by omega, byt_app_0]; exact (isW_not hx).2.2.2.2
  · rw [if_neg hh] at h
    exact absurd (congrArg (fun x => x.2.2) h) (by simp)
theorem rdS_loc {l x : List UInt8} {k : Nat} (hk : k < l.length) (h : (rdS l k).2.2 = 0) (hx : isW (byt x 0) = true) : rdS (l ++ x) k = rdS l k := by
  have e1 : rdS (l ++ x) (k : Int) = rdN (l ++ x) k := by rw [rdS, if_neg (by rw [List.length_append]; omega), Int.toNat_natCast]
  have e2 : rdS l k = rdN l k := by rw [rdS, if_neg (by omega), Int.toNat_natCast]
  rw [e2] at h
  have hb : ¬ badN l (fstN l k) (runL l (fstN l k)) := by
    intro hb
    unfold rdN at h
    rw [if_pos hb] at h
    simp at h
  have hf : fstN (l ++ x) k = fstN l k := by unfold fstN; rw [byt_app_l _ _ _ hk]
  have hfl := (fst_le l k hk).2
  have hrl := runL_le l (fstN l k) hfl
  have hd := (digsK_iff _ _ _).1 (runL_digs l (fstN l k))
  have hs := runL_stop l (fstN l k)
  have hnot := isW_not hx
  have hlast : isD (byt (l ++ x) (fstN l k + runL l (fstN l k))) = false ∧ (byt (l ++ x) (fstN l k + runL l (fstN l k)) = byt l (fstN l k + runL l (fstN l k)) ∨ (byt (l ++ x) (fstN l k + runL l (fstN l k)) ≠ 46 ∧ byt (l ++ x) (fstN l k + runL l (fstN l k)) ≠ 101 ∧ byt (l ++ x) (fstN l k + runL l (fstN l k)) ≠ 69)) := by
    rcases Nat.lt_or_ge (fstN l k + runL l (fstN l k)) l.length with g | g
    · rw [byt_app_l _ _ _ g]; exact ⟨hs, .inl rfl⟩
    · rw [show fstN l k + runL l (fstN l k) = l.length by omega, byt_app_0]
      exact ⟨hnot.1, .inr ⟨hnot.2.1, hnot.2.2.1, hnot.2.2.2.1⟩⟩
  have hr : runL (l ++ x) (fstN l k) = runL l (fstN l k) := by
    refine runL_eq ((digsK_iff _ _ _).2 fun j hj => ?_) hlast.1
    have := hd j hj
    rw [byt_app_l _ _ _ (isD_in this)]
    exact this
  have ha : accD (l ++ x) (fstN l k) (runL l (fstN l k)) = accD l (fstN l k) (runL l (fstN l k)) := accD_app _ _ _ _ hrl
  have hr0 : runL l (fstN l k) ≠ 0 := fun h => hb (.inl h)
  have hfb : byt (l ++ x) (fstN l k) = byt l (fstN l k) := byt_app_l _ _ _ (by omega)
  have hb2 : ¬ badN (l ++ x) (fstN l k) (runL l (fstN l k)) := by
    unfold badN at hb ⊢
    rw [ha, hfb]
    omega
  rw [e1, e2]
  unfold rdN
  rw [hf, hr, ha, if_neg hb2, if_neg hb, byt_app_l _ _ _ hk]
theorem stp_loc {l x : List UInt8} {k : Nat} {o : Option Tok} {m : Int} (hk : k < l.length) (h : stp l k = (o, m, 0)) (hx : isW (byt x 0) = true) : stp (l ++ x) k = (o, m, 0) := by
  have hb : byt (l ++ x) k = byt l k := byt_app_l _ _ _ hk
  have hg : (l ++ x).getD k 0 = l.getD k 0 := by
    rw [List.getD_eq_getElem?_getD, List.getD_eq_getElem?_getD, List.getElem?_append_left hk]
  unfold stp at h ⊢
  rw [hb, hg]
  by_cases c1 : isW (byt l k) = true
  · rw [if_pos c1] at h ⊢; exact h
  rw [if_neg c1] at h ⊢
  by_cases c2 : isMk (byt l k) = true
  · rw [if_pos c2] at h ⊢; exact h
  rw [if_neg c2] at h ⊢
  by_cases c3 : byt l k = 34
  · rw [if_pos c3] at h ⊢
    unfold txT at h ⊢
    by_cases he : (readS l k).2.2 = 0
    · rcases hr : readS l k with ⟨t, n, e⟩
      rw [hr] at he
      simp only at he
      subst he
      have h1 := (begins_plain l (l.drop n.toNat ++ x) k t n hr).1
      rw [← List.append_assoc, List.take_append_drop] at h1
      rw [h1]
      rw [hr] at h
      exact h
    · rw [if_neg he] at h
      exact absurd (congrArg (fun x => x.2.2) h) he
  rw [if_neg c3] at h ⊢
  by_cases c4 : isNm (byt l k) = true
  · rw [if_pos c4] at h ⊢
    unfold nmT at h ⊢
    by_cases he : (rdS l k).2.2 = 0
    · rw [rdS_loc hk he hx]; exact h
    · rw [if_neg he] at h
      exact absurd (congrArg (fun x => x.2.2) h) he
  rw [if_neg c4] at h ⊢
  by_cases c5 : byt l k = 116
  · rw [if_pos c5] at h ⊢; exact wrd_loc (by decide) h hx
  rw [if_neg c5] at h ⊢
  by_cases c6 : byt l k = 102
  · rw [if_pos c6] at h ⊢; exact wrd_loc (by decide) h hx
  rw [if_neg c6] at h ⊢
  by_cases c7 : byt l k = 110
  · rw [if_pos c7] at h ⊢; exact wrd_loc (by decide) h hx
  rw [if_neg c7] at h ⊢
  exact h
theorem Scan.loc {l x : List UInt8} {k m : Nat} {ts : List Tok} (h : Scan l k ts m) (hx : isW (byt x 0) = true) : Scan (l ++ x) k ts m := by
  induction h with
  | nil k => exact .nil k
  | cons hk hs _ ih => exact .cons (by rw [List.length_append]; omega) (stp_loc hk hs hx) ih

/-- two texts with white space between them -/
theorem split_plain (s t : List UInt8) (h : (scn s 0).2.2 = 0) : scn (s ++ 32 :: t) 0 = consR (scn s 0).1 ((scn t 0).1.map (shT (s.length + 1)), if (scn t 0).2.2 = 0 then (scn t 0).2.1 else (scn t 0).2.1 + (s.length + 1 : Nat), (scn t 0).2.2) := by
  have h1 := (scn_Scan s _ 0 (Nat.le_refl _) (by omega) h).1.loc (x := 32 :: t) (by rw [byt_cons_0]; decide)
  have h2 : stp (s ++ 32 :: t) s.length = (none, ((s.length + 1 : Nat) : Int), 0) := by
    unfold stp
    rw [byt_app_0, if_pos (by rfl)]
  have h3 := h1.snoc (by rw [List.length_append]; simp) h2
  have h4 := scn_shift (s ++ [32]) t _ 0 (Nat.le_refl _)
  rw [List.append_assoc, List.length_append] at h4
  rw [h3.scn]
  simp only [Option.toList_none, List.append_nil]
  congr 1

/-! ### the words; what a step is, by its byte -/
/-- the words -/
def wrds (k : Nat) : List UInt8 := if k = 0 then wTrue else if k = 1 then wFalse else wNull
/-- how long the first word is that stands at a place, from the k-th word on -/
def wdF (l : List UInt8) (p : Nat) : Nat → Nat → Nat
  | 0, _ => 0
  | f + 1, k => if hasW l p (wrds k) then (wrds k).length else wdF l p f (k + 1)
def wdN (l : List UInt8) (p : Nat) : Nat := wdF l p 3 0
theorem wrds_len (k : Nat) : 4 ≤ (wrds k).length ∧ (wrds k).length ≤ 5 := by 
  unfold wrds
  split
  · decide
  · split <;> decide
theorem wrds_hd (k : Nat) : byt (wrds k) 0 = if k = 0 then 116 else if k = 1 then 102 else 110 := by 
  unfold wrds
  split
  · rfl
  · split <;> rfl
theorem hasW_hd {l : List UInt8} {p : Nat} {y : List UInt8} (h : hasW l p y) (hy : 0 < y.length) : byt y 0 = byt l p := by
  obtain ⟨h, _⟩ := h
  have h2 : (l.drop p)[0]? = y[0]? := by rw [← h, List.getElem?_take, if_pos hy]
  unfold byt
  rw [List.getD_eq_getElem?_getD, List.getD_eq_getElem?_getD, ← h2, List.getElem?_drop, Nat.add_zero]
/-- a word that begins with one byte alone can stand there -/
theorem wdN_is {l : List UInt8} {p k : Nat} (hk : k < 3) (h : byt l p = byt (wrds k) 0) : wdN l p = if hasW l p (wrds k) then (wrds k).length else 0 := by
  have no : ∀ j, j < 3 → j ≠ k → ¬ hasW l p (wrds j) := by
    intro j hj hjk hh
    have h1 := hasW_hd hh (by have := (wrds_len j).1; omega)
    rw [h, wrds_hd, wrds_hd] at h1
    rcases (show k = 0 ∨ k = 1 ∨ k = 2 by omega) with rfl | rfl | rfl <;> rcases (show j = 0 ∨ j = 1 ∨ j = 2 by omega) with rfl | rfl | rfl <;> simp at h1 hjk
  unfold wdN
  rw [wdF, wdF, wdF, wdF]
  rcases (show k = 0 ∨ k = 1 ∨ k = 2 by omega) with rfl | rfl | rfl
  · rw [if_neg (no 1 (by omega) (by omega)), if_neg (no 2 (by omega) (by omega))]
  · rw [if_neg (no 0 (by omega) (by omega)), if_neg (no 2 (by omega) (by omega))]
  · rw [if_neg (no 0 (by omega) (by omega)), if_neg (no 1 (by omega) (by omega))]
theorem wdN_no {l : List UInt8} {p : Nat} (h1 : byt l p ≠ 116) (h2 : byt l p ≠ 102) (h3 : byt l p ≠ 110) : wdN l p = 0 := by
  have no : ∀ j, j < 3 → ¬ hasW l p (wrds j) := by
    intro j hj hh
    have h := hasW_hd hh (by have := (wrds_len j).1; omega)
    rw [wrds_hd] at h
    rcases (show j = 0 ∨ j = 1 ∨ j = 2 by omega) with rfl | rfl | rfl <;> simp at h <;> omega
  unfold wdN
  rw [wdF, wdF, wdF, wdF, if_neg (no 0 (by omega)), if_neg (no 1 (by omega)), if_neg (no 2 (by omega))]

theorem stp_W {l : List UInt8} {k : Nat} (h : isW (byt l k) = true) : stp l k = (none, ((k + 1 : Nat) : Int), 0) := by rw [stp, if_pos h]
theorem stp_M {l : List UInt8} {k : Nat} (h : isMk (byt l k) = true) : stp l k = (some (1, 0, [l.getD k 0], (k : Int)), ((k + 1 : Nat) : Int), 0) := by
  have h2 := (isMk_iff _).1 h
  rw [stp, if_neg (by rw [isW_iff]; omega), if_pos h]
theorem stp_T {l : List UInt8} {k : Nat} (h : byt l k = 34) : stp l k = txT l k := by
  rw [stp, h, if_neg (by decide), if_neg (by decide), if_pos rfl]
theorem stp_N {l : List UInt8} {k : Nat} (h : isNm (byt l k) = true) : stp l k = nmT l k := by
  have h2 := (isNm_iff _).1 h
  rw [stp, if_neg (by rw [isW_iff]; omega), if_neg (by rw [isMk_iff]; omega), if_neg (by omega), if_pos h]
theorem stp_wd {l : List UInt8} {k i : Nat} (hi : i < 3) (h : byt l k = byt (wrds i) 0) : stp l k = wrd l k (wrds i) := by
  rw [wrds_hd] at h
  unfold stp wrds
  rw [h]
  rcases (show i = 0 ∨ i = 1 ∨ i = 2 by omega) with rfl | rfl | rfl
  · rfl
  · rfl
  · rfl
theorem stp_E {l : List UInt8} {k : Nat} (h1 : isW (byt l k) = false) (h2 : isMk (byt l k) = false) (h3 : byt l k ≠ 34) (h4 : isNm (byt l k) = false) (h5 : byt l k ≠ 116) (h6 : byt l k ≠ 102) (h7 : byt l k ≠ 110) : stp l k = (none, (k : Int), 40) := by
  rw [stp, if_neg (by rw [h1]; simp), if_neg (by rw [h2]; simp), if_neg h3, if_neg (by rw [h4]; simp), if_neg h5, if_neg h6, if_neg h7]

/-! ### the same tokens -/
/-- are two tokens the same (their places, too)? -/
def sameT (p : Bool) (t u : Tok) : Prop := t.1 = u.1 ∧ t.2.1 = u.2.1 ∧ t.2.2.1 = u.2.2.1 ∧ (p = true → t.2.2.2 = u.2.2.2)
def sameL (p : Bool) : List Tok → List Tok → Prop
  | [], [] => True
  | t :: r, u :: s => sameT p t u ∧ sameL p r s
  | _, _ => False
theorem sameL_refl (p : Bool) (ts : List Tok) : sameL p ts ts := by
  induction ts with
  | nil => trivial
  | cons t r ih => exact ⟨⟨rfl, rfl, rfl, fun _ => rfl⟩, ih⟩
theorem sameL_iff (p : Bool) : ∀ ts us, sameL p ts us ↔ ts.length = us.length ∧ ∀ i (h1 : i < ts.length) (h2 : i < us.length), sameT p ts[i] us[i] := by
  intro ts
  induction ts with
  | nil => intro us; cases us with
    | nil => simp [sameL]
    | cons u s => simp [sameL]
  | cons t r ih => intro us; cases us with
    | nil => simp [sameL]
    | cons u s =>
      simp only [sameL, ih, List.length_cons]
      constructor
      · rintro ⟨h0, h1, h2⟩
        refine ⟨by omega, fun i g1 g2 => ?_⟩
        cases i with
        | zero => exact h0
        | succ i => exact h2 i (by omega) (by omega)
      · rintro ⟨h1, h2⟩
        exact ⟨h2 0 (by omega) (by omega), by omega, fun i g1 g2 => h2 (i + 1) (by omega) (by omega)⟩


/-! ### what is written is scanned as it was -/
theorem qb_pos (c : UInt8) : 1 ≤ (Ch.qb c).length := by
  unfold Ch.qb
  rw [Ch.toB_len]
  unfold Ch.qbZ
  split
  · have := (Ch.escZ_le (c.toNat : Int)).1; omega
  · simp
theorem len_qbL (l : List UInt8) : l.length ≤ (qbL l).length := by
  induction l with
  | nil => simp
  | cons c r ih =>
    have h := qb_pos c
    rw [show c :: r = [c] ++ r from rfl, Ch.qbL_append, List.length_append, List.length_append]
    have : (qbL [c]).length = (Ch.qb c).length := by simp [qbL]
    simp only [List.length_singleton]
    omega
/-- what a scanned token is -/
def okT (t : Tok) : Prop :=
  (t.1 = 1 ∧ t.2.1 = 0 ∧ ∃ c : UInt8, t.2.2.1 = [c] ∧ isMk (c.toNat : Int) = true) ∨ (t.1 = 2 ∧ t.2.1 = 0 ∧ ∃ i, i < 3 ∧ t.2.2.1 = wrds i) ∨
  (t.1 = 3 ∧ t.2.1.natAbs ≤ maxN ∧ t.2.2.1 = []) ∨ (t.1 = 4 ∧ t.2.1 = 0 ∧ (ptsL t.2.2.1).2 = t.2.2.1.length)
/-- a token's text -/
def wr (t : Tok) : List UInt8 := if t.1 = 3 then putL t.2.1 else if t.1 = 4 then 34 :: (qbL t.2.2.1 ++ [34]) else t.2.2.1

theorem stp_okT {l : List UInt8} {k : Nat} {m : Int} {t : Tok} (h : stp l k = (some t, m, 0)) : okT t ∧ t.2.2.1.length ≤ l.length + 1 := by
  have key : ∀ i, i < 3 → wrd l k (wrds i) = (some t, m, 0) → okT t ∧ t.2.2.1.length ≤ l.length + 1 := by
    intro i hi hw
    have hle := wrd_ok_le (w := wrds i) (l := l) (k := k) (fun e => by have := (wrds_len i).1; rw [e] at this; simp at this) (by rw [hw])
    unfold wrd at hw
    split at hw
    · rename_i hh
      have e : (2, 0, wrds i, (k : Int)) = t := Option.some.inj (congrArg Prod.fst hw)
      subst e
      refine ⟨.inr (.inl ⟨rfl, rfl, i, hi, rfl⟩), ?_⟩
      have h1 := congrArg List.length hh.1
      rw [List.length_take, List.length_drop] at h1
      show (wrds i).length ≤ l.length + 1
      omega
    · exact absurd (congrArg (fun x => x.2.2) hw) (by simp)
  unfold stp at h
  by_cases c1 : isW (byt l k) = true
  · rw [if_pos c1] at h; exact absurd (congrArg Prod.fst h) (by simp)
  rw [if_neg c1] at h
  by_cases c2 : isMk (byt l k) = true
  · rw [if_pos c2] at h
    have e : (1, 0, [l.getD k 0], (k : Int)) = t := Option.some.inj (congrArg Prod.fst h)
    subst e
    exact ⟨.inl ⟨rfl, rfl, _, rfl, c2⟩, by simp⟩
  rw [if_neg c2] at h
  by_cases c3 : byt l k = 34
  · rw [if_pos c3] at h
    unfold txT at h
    split at h
    · rename_i he
      have e := Option.some.inj (congrArg Prod.fst h)
      subst e
      rcases hr : readS l k with ⟨tx, n, e⟩
      rw [hr] at he
      simp only at he
      subst he
      obtain ⟨f1, f2, f3, f4, f5, _⟩ := again_plain l k tx n hr
      refine ⟨.inr (.inr (.inr ⟨rfl, rfl, f1⟩)), ?_⟩
      have hq := len_qbL tx
      show tx.length ≤ l.length + 1
      omega
    · rename_i he; exact absurd (congrArg (fun x => x.2.2) h) he
  rw [if_neg c3] at h
  by_cases c4 : isNm (byt l k) = true
  · rw [if_pos c4] at h
    unfold nmT at h
    split at h
    · have e := Option.some.inj (congrArg Prod.fst h)
      subst e
      have hb := rdS_bounds l k
      refine ⟨.inr (.inr (.inl ⟨rfl, ?_, rfl⟩)), by simp⟩
      show (rdS l k).1.natAbs ≤ maxN
      omega
    · rename_i he; exact absurd (congrArg (fun x => x.2.2) h) he
  rw [if_neg c4] at h
  by_cases c5 : byt l k = 116
  · rw [if_pos c5] at h; exact key 0 (by omega) h
  rw [if_neg c5] at h
  by_cases c6 : byt l k = 102
  · rw [if_pos c6] at h; exact key 1 (by omega) h
  rw [if_neg c6] at h
  by_cases c7 : byt l k = 110
  · rw [if_pos c7] at h; exact key 2 (by omega) h
  rw [if_neg c7] at h
  exact absurd (congrArg Prod.fst h) (by simp)
theorem Scan.okT {l : List UInt8} {k n : Nat} {ts : List Tok} (h : Scan l k ts n) : ∀ t ∈ ts, okT t ∧ t.2.2.1.length ≤ l.length + 1 := by
  induction h with
  | nil k => simp
  | cons hk hs _ ih =>
    rename_i o ts _
    intro t ht
    rw [List.mem_append] at ht
    rcases ht with ht | ht
    · cases o with
      | none => simp at ht
      | some u =>
        simp at ht
        subst ht
        exact stp_okT hs
    · exact ih t ht
theorem wr_len {t : Tok} {L : Nat} (h : t.2.2.1.length ≤ L) : (wr t).length ≤ 6 * L + 30 := by
  unfold wr
  have h1 := putL_len t.2.1
  have h2 := Ch.qbL_le t.2.2.1
  split
  · omega
  · split
    · rw [List.length_cons, List.length_append]; simp; omega
    · omega

/-- a token's text, with white space behind it, is that token -/
theorem stp_wr {t : Tok} {x : List UInt8} (h : okT t) (hx : isW (byt x 0) = true) : stp (wr t ++ x) 0 = (some (t.1, t.2.1, t.2.2.1, 0), ((wr t).length : Int), 0) ∧ 0 < (wr t).length := by
  obtain ⟨a, n, s, z⟩ := t
  have hn := isW_not hx
  rcases h with ⟨h1, h2, c, h3, h4⟩ | ⟨h1, h2, i, hi, h3⟩ | ⟨h1, h2, h3⟩ | ⟨h1, h2, h3⟩
  · simp only at h1 h2 h3
    subst h1 h2 h3
    have hw : wr (1, 0, [c], z) = [c] := rfl
    rw [hw]
    refine ⟨?_, by simp⟩
    rw [stp_M (by exact h4)]
    rfl
  · simp only at h1 h2 h3
    subst h1 h2 h3
    have hw : wr (2, 0, wrds i, z) = wrds i := rfl
    have hl := (wrds_len i).1
    rw [hw]
    refine ⟨?_, by omega⟩
    rw [stp_wd hi (byt_app_l _ _ _ (by omega)), wrd, if_pos]
    · rw [Nat.zero_add]; rfl
    · refine ⟨by rw [List.drop_zero, List.take_left' rfl], ?_⟩
      rw [Nat.zero_add, byt_app_0]
      exact hn.2.2.2.2
  · simp only at h1 h2 h3
    subst h1 h3
    have hw : wr (3, n, [], z) = putL n := rfl
    have hm : maxN = 9007199254740991 := rfl
    have hl := (putL_len n).1
    rw [hw]
    refine ⟨?_, by omega⟩
    have hr := rd_put n (by omega) x hn.1
    rw [if_neg (by rintro (h | h | h | h); omega; exact hn.2.1 h; exact hn.2.2.1 h; exact hn.2.2.2.1 h)] at hr
    have h0 : isNm (byt (putL n ++ x) 0) = true := by
      rw [isNm_iff, byt_app_l _ _ _ (by omega)]
      unfold putL
      split
      · exact .inl rfl
      · exact .inr (digN_lo _ (by omega))
    have hr' : rdS (putL n ++ x) ((0 : Nat) : Int) = (n, ((putL n).length : Int), 0) := hr
    rw [stp_N h0, nmT, hr']
    rfl
  · simp only at h1 h2 h3
    subst h1 h2
    have hw : wr (4, 0, s, z) = 34 :: (qbL s ++ [34]) := rfl
    rw [hw]
    refine ⟨?_, by simp⟩
    have hb := back_plain [] x s h3
    rw [List.nil_append, List.length_nil] at hb
    rw [stp_T (by rfl), txT, hb]
    simp
theorem white_run (x : List UInt8) : ∀ (g p : List UInt8), (∀ j, j < g.length → isW (byt g j) = true) → Scan (p ++ (g ++ x)) p.length [] (p.length + g.length) := by
  intro g
  induction g with
  | nil => intro p _; exact .nil _
  | cons c g ih =>
    intro p hg
    have h0 := hg 0 (by simp)
    have h1 : stp (p ++ (c :: g ++ x)) p.length = (none, ((p.length + 1 : Nat) : Int), 0) := by
      have hb : byt (p ++ (c :: g ++ x)) p.length = byt (c :: g) 0 := by rw [byt_app_0]; rfl
      exact stp_W (by rw [hb]; exact h0)
    have h2 := ih (p ++ [c]) (fun j hj => by have := hg (j + 1) (by simpa using hj); exact this)
    rw [List.append_assoc, List.length_append, List.length_singleton] at h2
    have h3 := Scan.cons (o := none) (by rw [List.length_append]; simp) h1 (show Scan (p ++ (c :: g ++ x)) (p.length + 1) [] (p.length + 1 + g.length) from h2)
    rw [show p.length + (c :: g).length = p.length + 1 + g.length by rw [List.length_cons]; omega]
    exact h3
/-- what is written of tokens, with white space behind each -/
def txt (g : List UInt8) (ts : List Tok) : List UInt8 := (ts.map fun t => wr t ++ g).flatten
theorem txt_app (g : List UInt8) (a b : List Tok) : txt g (a ++ b) = txt g a ++ txt g b := by simp [txt]
theorem txt_one (g : List UInt8) (t : Tok) : txt g [t] = wr t ++ g := by simp [txt]
theorem txt_len (g : List UInt8) (L : Nat) : ∀ ts : List Tok, (∀ t ∈ ts, t.2.2.1.length ≤ L) → (txt g ts).length ≤ ts.length * (6 * L + 30 + g.length) := by
  intro ts
  induction ts with
  | nil => intro _; simp [txt]
  | cons t r ih =>
    intro h
    have h1 := ih fun u hu => h u (List.mem_cons_of_mem _ hu)
    have h2 := wr_len (h t (List.mem_cons_self ..))
    rw [show t :: r = [t] ++ r from rfl, txt_app, txt_one, List.length_append, List.length_append, List.length_append, List.length_singleton, Nat.add_mul, Nat.one_mul]
    omega
theorem scan_txt (g : List UInt8) (hg : ∀ j, j < g.length → isW (byt g j) = true) (hg0 : 0 < g.length) : ∀ (ts : List Tok), (∀ t ∈ ts, okT t) → ∀ p : List UInt8, ∃ us, Scan (p ++ txt g ts) p.length us (p ++ txt g ts).length ∧ sameL false ts us := by
  intro ts
  induction ts with
  | nil => intro _ p; exact ⟨[], by simp [txt]; exact .nil _, trivial⟩
  | cons t r ih =>
    intro hok p
    have e : txt g (t :: r) = wr t ++ (g ++ txt g r) := by rw [show t :: r = [t] ++ r from rfl, txt_app, txt_one, List.append_assoc]
    obtain ⟨h1, h2⟩ := stp_wr (hok t (List.mem_cons_self ..)) (x := g ++ txt g r) (by rw [byt_app_l _ _ _ hg0]; exact hg 0 hg0)
    have h3 := stp_shift p (wr t ++ (g ++ txt g r)) 0 (by rw [List.length_append]; omega)
    rw [h1] at h3
    have h4 : stp (p ++ (wr t ++ (g ++ txt g r))) p.length = (some (shT p.length (t.1, t.2.1, t.2.2.1, 0)), (((p ++ wr t).length : Nat) : Int), 0) := by
      have := h3
      rw [Nat.add_zero] at this
      rw [this]
      rw [Prod.ext_iff, Prod.ext_iff]
      exact ⟨rfl, by simp only [List.length_append]; omega, rfl⟩
    have h5 := white_run (txt g r) g (p ++ wr t) hg
    obtain ⟨us, h6, h7⟩ := ih (fun u hu => hok u (List.mem_cons_of_mem _ hu)) (p ++ wr t ++ g)
    have e2 : p ++ wr t ++ (g ++ txt g r) = p ++ (wr t ++ (g ++ txt g r)) := by simp
    have e3 : p ++ wr t ++ g ++ txt g r = p ++ (wr t ++ (g ++ txt g r)) := by simp
    rw [e2] at h5
    rw [e3] at h6
    rw [show (p ++ wr t).length + g.length = (p ++ wr t ++ g).length by simp only [List.length_append]] at h5
    rw [e]
    refine ⟨shT p.length (t.1, t.2.1, t.2.2.1, 0) :: us, ?_, ⟨⟨rfl, rfl, rfl, fun h => by cases h⟩, h7⟩⟩
    have := Scan.cons (by simp only [List.length_append]; omega) h4 (h5.trans h6)
    exact this
/-- tokens that are written are scanned as they were -/
theorem back_S (g : List UInt8) (hg : ∀ j, j < g.length → isW (byt g j) = true) (hg0 : 0 < g.length) (ts : List Tok) (hok : ∀ t ∈ ts, okT t) :
    (65536 < (txt g ts).length ∧ scnS (txt g ts) = ([], 0, 2)) ∨ (∃ us, scnS (txt g ts) = (us, 0, 0) ∧ sameL false ts us) := by
  by_cases hl : 65536 < (txt g ts).length
  · exact .inl ⟨hl, by rw [scnS, if_pos hl]⟩
  · obtain ⟨us, h1, h2⟩ := scan_txt g hg hg0 ts hok []
    rw [List.nil_append, List.length_nil] at h1
    refine .inr ⟨us, ?_, h2⟩
    rw [scnS, if_neg hl, h1.scn, scn_end (Nat.le_refl _), consR, if_pos rfl, List.append_nil]
end Go.Proofs.Ytbepnjgbkfidiaa.Sc
