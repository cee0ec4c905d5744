/- Merged: FoPl2. -/
import Derived.Test.YtjbaogoapobhbaaDoorTt3
import Derived.Test.YtjbaogoapobhbaaDoorTt1
import Derived.Lib.IndexAny
import Derived.Lib.DecodeN
import Derived.Lib.IndexMore
namespace Go.Proofs.YtjbaogoapobhbaaDoor.Fo
open Go.Proofs Go.RowKit
open Go.Proofs.YtjbaogoapobhbaaDoor.Utf
open Go.Proofs.YtjbaogoapobhbaaDoor.Wo (hdP tlP hd_le tl_le)

def stopB (b : UInt8) : Bool := b == 32 || b == 34
def wrdL : List UInt8 → List UInt8
  | [] => []
  | c :: r => if stopB c = true then [] else c :: wrdL r
def rstL : List UInt8 → List UInt8
  | [] => []
  | c :: r => if stopB c = true then c :: r else rstL r
theorem wrd_rst : ∀ s : List UInt8, s = wrdL s ++ rstL s
  | [] => rfl
  | c :: r => by
    rw [wrdL, rstL]
    split
    · rfl
    · rw [List.cons_append, ← wrd_rst r]
theorem rst_len (s : List UInt8) : (wrdL s).length + (rstL s).length = s.length := by
  conv => rhs; rw [wrd_rst s]
  rw [List.length_append]
theorem stop_iff (c : UInt8) : stopB c = true ↔ c = 32 ∨ c = 34 := by simp [stopB]
theorem stop_chars (c : UInt8) : ([32, 34] : List UInt8).contains c = stopB c := by rw [Bool.eq_iff_iff]; simp [stopB]
theorem any_word : ∀ s : List UInt8, Lib.indexAny s [32, 34] = if rstL s = [] then -1 else ((wrdL s).length : Int)
  | [] => rfl
  | c :: r => by
    rw [Lib.indexAny, stop_chars, rstL, wrdL, any_word r]
    by_cases h : stopB c = true
    · rw [if_pos h, if_pos h, if_pos h, if_neg (by simp)]; try rfl
    · rw [if_neg h, if_neg h, if_neg h]
      by_cases h2 : rstL r = []
      · rw [if_pos h2, if_pos h2]; rfl
      · rw [if_neg h2, if_neg h2, if_neg (by simp <;> omega), List.length_cons]
        push_cast; rfl
theorem wrd_take (s : List UInt8) : s.take (wrdL s).length = wrdL s := by
  have h := List.take_left (l₁ := wrdL s) (l₂ := rstL s)
  rwa [← wrd_rst s] at h
theorem wrd_drop (s : List UInt8) : s.drop (wrdL s).length = rstL s := by
  have h := List.drop_left (l₁ := wrdL s) (l₂ := rstL s)
  rwa [← wrd_rst s] at h
theorem wrd_all {s : List UInt8} (h : rstL s = []) : wrdL s = s := by
  have := wrd_rst s
  rw [h, List.append_nil] at this
  exact this.symm

def skp (l : List UInt8) : List UInt8 := l.dropWhile (· == 32)
def nxt (l : List UInt8) : List UInt8 × List UInt8 :=
  match skp l with
  | [] => ([], [])
  | c :: r => if c = 34 then (hdP 34 r, tlP 34 r) else (wrdL (c :: r), rstL (c :: r))
theorem nxt_nil {l : List UInt8} (h : skp l = []) : nxt l = ([], []) := by unfold nxt; rw [h]
theorem nxt_quote {l r : List UInt8} (h : skp l = 34 :: r) : nxt l = (hdP 34 r, tlP 34 r) := by unfold nxt; rw [h]; rfl
theorem nxt_word {l r : List UInt8} {c : UInt8} (h : skp l = c :: r) (hc : c ≠ 34) : nxt l = (wrdL (c :: r), rstL (c :: r)) := by unfold nxt; rw [h]; simp only [if_neg hc]
theorem skp_cons {l r : List UInt8} {c : UInt8} (h : skp l = c :: r) : c ≠ 32 := by
  intro e
  have := List.head?_dropWhile_not (fun b : UInt8 => b == 32) l
  unfold skp at h
  rw [h] at this
  simp [e] at this
theorem skp_le (l : List UInt8) : (skp l).length ≤ l.length := (List.dropWhile_sublist _).length_le
theorem trm_skp : ∀ l : List UInt8, trm l 0 [] = trm (skp l) 0 []
  | [] => rfl
  | c :: r => by
    unfold skp
    rw [List.dropWhile_cons]
    by_cases h : c = 32
    · subst h
      rw [trm_blank]; exact trm_skp r
    · have : (c == 32) = false := by simpa using h
      rw [this]; rfl
theorem trm_wd : ∀ (s cur : List UInt8), trm s 1 cur = (cur ++ wrdL s) :: trm (rstL s) 0 []
  | [], cur => by rw [trm_end1, wrdL, rstL, trm_end0, List.append_nil]
  | c :: r, cur => by
    rw [wrdL, rstL]
    by_cases h : stopB c = true
    · rw [if_pos h, if_pos h, trm_stop _ _ ((stop_iff c).1 h), List.append_nil]
    · have h2 : ¬ (c = 32 ∨ c = 34) := fun e => h ((stop_iff c).2 e)
      rw [if_neg h, if_neg h, trm_go _ _ (fun e => h2 (.inl e)) (fun e => h2 (.inr e)), trm_wd r, List.append_assoc]; rfl
theorem trm_qt : ∀ (s cur : List UInt8), trm s 2 cur = (if cur ++ hdP 34 s = [] then [] else [cur ++ hdP 34 s]) ++ trm (tlP 34 s) 0 []
  | [], cur => by rw [trm_end2, hdP, tlP, trm_end0, List.append_nil, List.append_nil]
  | c :: r, cur => by
    rw [hdP, tlP]
    by_cases h : c = 34
    · subst h
      rw [if_pos rfl, if_pos rfl, trm_close, List.append_nil]
    · rw [if_neg h, if_neg h, trm_in _ _ h, trm_qt r, List.append_assoc]; rfl
def one (t : List UInt8) : List (List UInt8) := if t = [] then [] else [t]
theorem nxt_trm (l : List UInt8) : trm l 0 [] = one (nxt l).1 ++ trm (nxt l).2 0 [] := by
  rw [trm_skp]
  rcases h : skp l with _ | ⟨c, r⟩
  · rw [nxt_nil h]; rfl
  · by_cases hc : c = 34
    · subst hc
      rw [nxt_quote h, trm_quote, trm_qt]; rfl
    · have h2 := skp_cons h
      rw [nxt_word h hc, trm_word _ h2 hc, trm_wd]
      have : wrdL (c :: r) ≠ [] := by rw [wrdL, if_neg (fun e => by rcases (stop_iff c).1 e with e | e; exact h2 e; exact hc e)]; simp
      unfold one
      rw [if_neg this]; rfl
theorem nxt_short (l : List UInt8) (h : l ≠ []) : (nxt l).2.length < l.length := by
  have h0 := skp_le l
  have h1 : 0 < l.length := List.length_pos_iff.2 h
  rcases e : skp l with _ | ⟨c, r⟩
  · rw [nxt_nil e]; exact h1
  · rw [e, List.length_cons] at h0
    by_cases hc : c = 34
    · subst hc
      rw [nxt_quote e]
      have := tl_le 34 r
      show (tlP 34 r).length < _
      omega
    · have h2 := skp_cons e
      rw [nxt_word e hc]
      have h3 := rst_len (c :: r)
      have : 0 < (wrdL (c :: r)).length := by rw [wrdL, if_neg (fun e => by rcases (stop_iff c).1 e with e | e; exact h2 e; exact hc e)]; simp
      show (rstL (c :: r)).length < _
      rw [List.length_cons] at h3
      omega
theorem nxt_len (l : List UInt8) : (nxt l).1.length ≤ l.length := by
  have h0 := skp_le l
  rcases e : skp l with _ | ⟨c, r⟩
  · rw [nxt_nil e]; simp
  · rw [e, List.length_cons] at h0
    by_cases hc : c = 34
    · subst hc
      rw [nxt_quote e]
      have := hd_le 34 r
      show (hdP 34 r).length ≤ _
      omega
    · rw [nxt_word e hc]
      have h3 := rst_len (c :: r)
      show (wrdL (c :: r)).length ≤ _
      rw [List.length_cons] at h3
      omega
theorem nxt_len2 (l : List UInt8) : (nxt l).2.length ≤ l.length := by
  by_cases h : l = []
  · subst h; exact Nat.le_refl _
  · exact Nat.le_of_lt (nxt_short l h)

theorem has_index : ∀ a b : List UInt8, Lib.contains a b = hasL a b
  | [], b => by
    unfold Lib.contains
    rw [hasL, Lib.index]
    cases b with
    | nil => simp
    | cons c r => simp
  | c :: r, b => by
    have ih := has_index r b
    have hg := Lib.index_ge r b
    unfold Lib.contains at ih ⊢
    rw [hasL, ← ih, Lib.index]
    by_cases h : b.isPrefixOf (c :: r) = true
    · rw [if_pos h, h]; simp
    · rw [if_neg h, Bool.eq_false_iff.2 h, Bool.false_or]
      split
      · rename_i h2
        rw [beq_iff_eq] at h2
        rw [h2]; try rfl
      · rename_i h2
        have h3 : Lib.index r b ≠ -1 := fun e => h2 (by rw [e]; rfl)
        exact decide_eq_decide.2 (by omega)

theorem dec_hi (n b0 b1 b2 b3 : Nat) (h0 : b0 < 256) (hb : 128 ≤ b0) : 128 ≤ (Lib.decodeN n b0 b1 b2 b3).1 := by
  unfold Lib.decodeN
  rw [if_neg (by omega)]
  repeat' split
  all_goals first | omega | (show 128 ≤ (_ : Nat); omega)
theorem dec_w (n b0 b1 b2 b3 : Nat) (hn : 1 ≤ n) :
    let k := (Lib.decodeN n b0 b1 b2 b3).2
    1 ≤ k ∧ k ≤ n ∧ k ≤ 4 ∧ (1 < k → 128 ≤ b1) ∧ (2 < k → 128 ≤ b2) ∧ (3 < k → 128 ≤ b3) := by
  unfold Lib.decodeN
  repeat' split
  all_goals simp only
  all_goals omega
end Go.Proofs.YtjbaogoapobhbaaDoor.Fo
