/- Merged: TrS1 TlS1. -/
import Derived.Test.YtfdibmcjjclgkaaTt2
import Derived.Sort.Lot0
import Derived.Test.YtfdibmcjjclgkaaTt0
namespace Go.Proofs.Ytfdibmcjjclgkaa.Tr
open Go.Proofs Go.Sort

section
variable {α : Type} [Inhabited α]

theorem ext_at {a b : Array α} (hs : a.size = b.size) (h : ∀ t, t < a.size → a[t]! = b[t]!) : a = b :=
  Array.ext hs fun t h1 h2 => by have := h t h1; rwa [getElem!_pos a t h1, getElem!_pos b t h2] at this
def mkA (n : Nat) (f : Nat → α) : Array α := Array.ofFn (n := n) fun i => f i.1
omit [Inhabited α] in
theorem mkA_size (n : Nat) (f : Nat → α) : (mkA n f).size = n := by simp [mkA]
theorem mkA_get {n : Nat} {f : Nat → α} {i : Nat} (h : i < n) : (mkA n f)[i]! = f i := by
  rw [getElem!_pos _ i (by rw [mkA_size]; exact h)]
  simp [mkA]

def swapR (d : Array α) (a b n : Nat) : Array α := mkA d.size fun x => if a ≤ x ∧ x < a + n then d[x - a + b]! else if b ≤ x ∧ x < b + n then d[x - b + a]! else d[x]!
theorem swapR_size (d : Array α) (a b n : Nat) : (swapR d a b n).size = d.size := mkA_size _ _
theorem swapR_get {d : Array α} {a b n x : Nat} (h : x < d.size) : (swapR d a b n)[x]! = if a ≤ x ∧ x < a + n then d[x - a + b]! else if b ≤ x ∧ x < b + n then d[x - b + a]! else d[x]! := mkA_get h
theorem swapR_zero (d : Array α) (a b : Nat) : swapR d a b 0 = d := by
  refine ext_at (swapR_size _ _ _ _) fun t ht => ?_
  rw [swapR_size] at ht
  rw [swapR_get ht, if_neg (by omega), if_neg (by omega)]
theorem swapR_succ {d : Array α} {a b n : Nat} (h1 : a + (n + 1) ≤ b) (h2 : b + (n + 1) ≤ d.size) : swp (swapR d a b n) (a + n) (b + n) = swapR d a b (n + 1) := by
  refine ext_at (by rw [size_swp, swapR_size, swapR_size]) fun t ht => ?_
  rw [size_swp, swapR_size] at ht
  rw [swp_get _ (by rw [swapR_size]; omega) (by rw [swapR_size]; omega), swapR_get (x := a + n) (by omega), swapR_get (x := b + n) (by omega), swapR_get (n := n) ht, swapR_get (n := n + 1) ht]
  all_goals (repeat' split)
  all_goals first | omega | (congr 1; omega) | rfl
theorem swapR_perm {d : Array α} {a b lo hi : Nat} : ∀ n, a + n ≤ b → b + n ≤ hi → lo ≤ a → hi ≤ d.size → PermIn lo hi d (swapR d a b n) := by
  intro n
  induction n with
  | zero => intro _ _ _ _; rw [swapR_zero]; exact permIn_refl d lo hi
  | succ n ih =>
    intro h1 h2 h3 h4
    rw [← swapR_succ h1 (by omega)]
    exact permIn_trans _ _ _ _ _ (ih (by omega) (by omega) h3 h4) (swp_permIn _ lo hi (a + n) (b + n) (by omega) (by omega) (by omega) (by omega) (by rw [swapR_size]; omega))

def rotD (d : Array α) (a m b : Nat) : Array α := mkA d.size fun x => if x < a ∨ b ≤ x then d[x]! else if x < a + (b - m) then d[x + (m - a)]! else d[x - (b - m)]!
theorem rotD_size (d : Array α) (a m b : Nat) : (rotD d a m b).size = d.size := mkA_size _ _
theorem rotD_get {d : Array α} {a m b x : Nat} (h : x < d.size) : (rotD d a m b)[x]! = if x < a ∨ b ≤ x then d[x]! else if x < a + (b - m) then d[x + (m - a)]! else d[x - (b - m)]! := mkA_get h
theorem rotD_end {d : Array α} {m i : Nat} (h1 : i ≤ m) : rotD d (m - i) m (m + i) = swapR d (m - i) m i := by
  refine ext_at (by rw [rotD_size, swapR_size]) fun t ht => ?_
  rw [rotD_size] at ht
  rw [rotD_get ht, swapR_get ht]
  all_goals (repeat' split)
  all_goals first | omega | (congr 1; omega) | rfl
theorem rotD_gt {d : Array α} {m i j : Nat} (h1 : i ≤ m) (h2 : m + j ≤ d.size) (h3 : j < i) : rotD (swapR d (m - i) m j) (m - (i - j)) m (m + j) = rotD d (m - i) m (m + j) := by
  refine ext_at (by rw [rotD_size, swapR_size, rotD_size]) fun t ht => ?_
  rw [rotD_size, swapR_size] at ht
  rw [rotD_get (by rw [swapR_size]; exact ht), rotD_get ht]
  by_cases c1 : t < m - i ∨ m + j ≤ t
  · rw [if_pos (by omega), if_pos c1, swapR_get ht, if_neg (by omega), if_neg (by omega)]
  by_cases c5 : t < m - (i - j)
  · rw [if_pos (by omega), swapR_get ht]
    all_goals (repeat' split)
    all_goals first | omega | (congr 1; omega) | rfl
  by_cases c6 : t < m - (i - j) + (m + j - m)
  · rw [if_neg (by omega), if_pos c6, swapR_get (by omega)]
    all_goals (repeat' split)
    all_goals first | omega | (congr 1; omega) | rfl
  rw [if_neg (by omega), if_neg c6, swapR_get (by omega)]
  all_goals (repeat' split)
  all_goals first | omega | (congr 1; omega) | rfl
theorem rotD_lt {d : Array α} {m i j : Nat} (h1 : i ≤ m) (h2 : m + j ≤ d.size) (h3 : i < j) : rotD (swapR d (m - i) (m + j - i) i) (m - i) m (m + (j - i)) = rotD d (m - i) m (m + j) := by
  refine ext_at (by rw [rotD_size, swapR_size, rotD_size]) fun t ht => ?_
  rw [rotD_size, swapR_size] at ht
  rw [rotD_get (by rw [swapR_size]; exact ht), rotD_get ht]
  by_cases c1 : t < m - i ∨ m + j ≤ t
  · rw [if_pos (by omega), if_pos c1, swapR_get ht, if_neg (by omega), if_neg (by omega)]
  by_cases c5 : m + (j - i) ≤ t
  · rw [if_pos (by omega), swapR_get ht]
    all_goals (repeat' split)
    all_goals first | omega | (congr 1; omega) | rfl
  by_cases c6 : t < m - i + (m + (j - i) - m)
  · rw [if_neg (by omega), if_pos c6, swapR_get (by omega)]
    all_goals (repeat' split)
    all_goals first | omega | (congr 1; omega) | rfl
  rw [if_neg (by omega), if_neg c6, swapR_get (by omega)]
  all_goals (repeat' split)
  all_goals first | omega | (congr 1; omega) | rfl
theorem rotD_up {d : Array α} {a k : Nat} (h1 : a ≤ k) (h2 : k + 2 ≤ d.size) : swp (rotD d a (a + 1) (k + 1)) k (k + 1) = rotD d a (a + 1) (k + 2) := by
  refine ext_at (by rw [size_swp, rotD_size, rotD_size]) fun t ht => ?_
  rw [size_swp, rotD_size] at ht
  rw [swp_get _ (by rw [rotD_size]; omega) (by rw [rotD_size]; omega), rotD_get (b := k + 1) (x := k) (by omega), rotD_get (b := k + 1) (x := k + 1) (by omega), rotD_get (b := k + 1) ht, rotD_get (b := k + 2) ht]
  all_goals (repeat' split)
  all_goals first | omega | (congr 1; omega) | rfl
theorem rotD_one (d : Array α) (a : Nat) : rotD d a (a + 1) (a + 1) = d := by
  refine ext_at (rotD_size _ _ _ _) fun t ht => ?_
  rw [rotD_size] at ht
  rw [rotD_get ht]
  by_cases c1 : t < a ∨ a + 1 ≤ t
  · rw [if_pos c1]
  · rw [if_neg c1, if_neg (by omega)]; congr 1; omega
theorem rotD_down {d : Array α} {k m : Nat} (h1 : k < m) (h2 : m + 1 ≤ d.size) : swp (rotD d (k + 1) m (m + 1)) (k + 1) k = rotD d k m (m + 1) := by
  refine ext_at (by rw [size_swp, rotD_size, rotD_size]) fun t ht => ?_
  rw [size_swp, rotD_size] at ht
  rw [swp_get _ (by rw [rotD_size]; omega) (by rw [rotD_size]; omega), rotD_get (a := k + 1) (x := k) (by omega), rotD_get (a := k + 1) (x := k + 1) (by omega), rotD_get (a := k + 1) ht, rotD_get (a := k) ht]
  all_goals (repeat' split)
  all_goals first | omega | (congr 1; omega) | rfl
theorem rotD_last {d : Array α} {m : Nat} : rotD d m m (m + 1) = d := by
  refine ext_at (rotD_size _ _ _ _) fun t ht => ?_
  rw [rotD_size] at ht
  rw [rotD_get ht]
  by_cases c1 : t < m ∨ m + 1 ≤ t
  · rw [if_pos c1]
  · rw [if_neg c1, if_pos (by omega)]; congr 1; omega

variable {lt : α → α → Bool}
theorem rotD_out {d : Array α} {a m b x : Nat} (h : x < d.size) (c : x < a ∨ b ≤ x) : (rotD d a m b)[x]! = d[x]! := by rw [rotD_get h, if_pos c]
theorem rotD_fst {d : Array α} {a m b x : Nat} (h : x < d.size) (c1 : a ≤ x) (c2 : x < b) (c3 : x < a + (b - m)) : (rotD d a m b)[x]! = d[x + (m - a)]! := by rw [rotD_get h, if_neg (by omega), if_pos c3]
theorem rotD_snd {d : Array α} {a m b x : Nat} (h : x < d.size) (c1 : a ≤ x) (c2 : x < b) (c3 : a + (b - m) ≤ x) : (rotD d a m b)[x]! = d[x - (b - m)]! := by rw [rotD_get h, if_neg (by omega), if_neg (by omega)]
theorem sorted_le (hS : SWO lt) {a b : Nat} {d : Array α} (h : SortedIn lt a b d) {i j : Nat} (h1 : a ≤ i) (h2 : i ≤ j) (h3 : j < b) : lt d[j]! d[i]! = false := by
  rcases Nat.lt_or_ge i j with c | c
  · exact h i j h1 c h3
  · obtain rfl : i = j := by omega
    exact hS.irrefl _
theorem sorted_up (hS : SWO lt) {d : Array α} {a b i : Nat} (hi1 : a + 1 ≤ i) (hi2 : i ≤ b) (hb : b ≤ d.size) (h2 : SortedIn lt (a + 1) b d) (f1 : ∀ x, a + 1 ≤ x → x < i → lt d[x]! d[a]! = true) (f2 : ∀ x, i ≤ x → x < b → lt d[x]! d[a]! = false) :
    SortedIn lt a b (rotD d a (a + 1) i) := by
  intro x y hx hxy hy
  have asym : ∀ p q, lt p q = true → lt q p = false := fun p q h => by
    rcases hq : lt q p with _ | _
    · rfl
    · have := hS.trans _ _ _ h hq
      rw [hS.irrefl] at this; cases this
  have X : ∀ z, a ≤ z → z < b → ((i ≤ z ∧ (rotD d a (a + 1) i)[z]! = d[z]!) ∨ (z + 1 < i ∧ (rotD d a (a + 1) i)[z]! = d[z + 1]!) ∨ (z + 1 = i ∧ (rotD d a (a + 1) i)[z]! = d[a]!)) := fun z z1 z2 => by
    rcases Nat.lt_or_ge z i with c | c
    · rcases Nat.lt_or_ge (z + 1) i with e | e
      · refine .inr (.inl ⟨e, ?_⟩)
        rw [rotD_fst (by omega) z1 c (by omega)]; congr 1; omega
      · refine .inr (.inr ⟨by omega, ?_⟩)
        rw [rotD_snd (by omega) z1 c (by omega)]; congr 1; omega
    · exact .inl ⟨c, rotD_out (by omega) (.inr c)⟩
  rcases X x hx (by omega) with ⟨c1, e1⟩ | ⟨c1, e1⟩ | ⟨c1, e1⟩ <;> rcases X y (by omega) hy with ⟨c2, e2⟩ | ⟨c2, e2⟩ | ⟨c2, e2⟩ <;> rw [e1, e2]
  · exact h2 x y (by omega) hxy hy
  · omega
  · omega
  · exact h2 (x + 1) y (by omega) (by omega) hy
  · exact h2 (x + 1) (y + 1) (by omega) (by omega) (by omega)
  · exact asym _ _ (f1 (x + 1) (by omega) (by omega))
  · exact f2 y (by omega) hy
  · omega
  · omega
theorem sorted_down (hS : SWO lt) {d : Array α} {a m i : Nat} (hi1 : a ≤ i) (hi2 : i ≤ m) (hb : m + 1 ≤ d.size) (h1 : SortedIn lt a m d) (f1 : ∀ x, a ≤ x → x < i → lt d[m]! d[x]! = false) (f2 : ∀ x, i ≤ x → x < m → lt d[m]! d[x]! = true) :
    SortedIn lt a (m + 1) (rotD d i m (m + 1)) := by
  intro x y hx hxy hy
  have asym : ∀ p q, lt p q = true → lt q p = false := fun p q h => by
    rcases hq : lt q p with _ | _
    · rfl
    · have := hS.trans _ _ _ h hq
      rw [hS.irrefl] at this; cases this
  have X : ∀ z, a ≤ z → z < m + 1 → ((z < i ∧ (rotD d i m (m + 1))[z]! = d[z]!) ∨ (z = i ∧ (rotD d i m (m + 1))[z]! = d[m]!) ∨ (i < z ∧ (rotD d i m (m + 1))[z]! = d[z - 1]!)) := fun z z1 z2 => by
    rcases Nat.lt_or_ge z i with c | c
    · exact .inl ⟨c, rotD_out (by omega) (.inl c)⟩
    · rcases Nat.lt_or_ge i z with e | e
      · refine .inr (.inr ⟨e, ?_⟩)
        rw [rotD_snd (by omega) c z2 (by omega)]; congr 1; omega
      · refine .inr (.inl ⟨by omega, ?_⟩)
        rw [rotD_fst (by omega) c z2 (by omega)]; congr 1; omega
  rcases X x hx (by omega) with ⟨c1, e1⟩ | ⟨c1, e1⟩ | ⟨c1, e1⟩ <;> rcases X y (by omega) hy with ⟨c2, e2⟩ | ⟨c2, e2⟩ | ⟨c2, e2⟩ <;> rw [e1, e2]
  · exact h1 x y hx hxy (by omega)
  · exact f1 x hx c1
  · exact h1 x (y - 1) hx (by omega) (by omega)
  · omega
  · omega
  · exact asym _ _ (f2 (y - 1) (by omega) (by omega))
  · omega
  · omega
  · exact h1 (x - 1) (y - 1) (by omega) (by omega) (by omega)
theorem cut_cross (hS : SWO lt) {d : Array α} {a m b mid s0 r0 st : Nat} (hmid : mid = (a + b) / 2)
    (h1 : SortedIn lt a m d) (h2 : SortedIn lt m b d) (hs : (m ≤ mid ∧ s0 = a ∧ r0 = m) ∨ (mid < m ∧ s0 = mid + m - b ∧ r0 = mid)) (g1 : s0 ≤ st) (g2 : st ≤ r0)
    (f1 : ∀ c, s0 ≤ c → c < st → lt d[mid + m - 1 - c]! d[c]! = false) (f2 : ∀ c, st ≤ c → c < r0 → lt d[mid + m - 1 - c]! d[c]! = true) :
    ∀ x y, ((a ≤ x ∧ x < st) ∨ (m ≤ x ∧ x < mid + m - st)) → ((st ≤ y ∧ y < m) ∨ (mid + m - st ≤ y ∧ y < b)) → lt d[y]! d[x]! = false := by
  intro x y hx hy
  have asym : ∀ p q, lt p q = true → lt q p = false := fun p q h => by
    rcases hq : lt q p with _ | _
    · rfl
    · have := hS.trans _ _ _ h hq
      rw [hS.irrefl] at this; cases this
  rcases hx with hx | hx <;> rcases hy with hy | hy
  · exact h1 x y hx.1 (by omega) hy.2
  · have c1 : s0 < st := by omega
    have k := f1 (st - 1) (by omega) (by omega)
    have e : mid + m - 1 - (st - 1) = mid + m - st := by omega
    rw [e] at k
    have k1 := sorted_le hS h1 (show a ≤ x from hx.1) (show x ≤ st - 1 by omega) (by omega)
    have k2 := sorted_le hS h2 (show m ≤ mid + m - st by omega) hy.1 hy.2
    exact hS.ntrans _ _ _ k2 (hS.ntrans _ _ _ k k1)
  · have c1 : st < r0 := by omega
    have k := asym _ _ (f2 st (by omega) c1)
    have k1 := sorted_le hS h2 (show m ≤ x from hx.1) (show x ≤ mid + m - 1 - st by omega) (by omega)
    have k2 := sorted_le hS h1 (show a ≤ st by omega) hy.1 hy.2
    exact hS.ntrans _ _ _ k2 (hS.ntrans _ _ _ k k1)
  · exact h2 x y hx.1 (by omega) hy.2
theorem cut_turned (hS : SWO lt) {d : Array α} {a m b mid s0 r0 st : Nat} (hmid : mid = (a + b) / 2) (ham : a < m) (hmb : m < b) (hb : b ≤ d.size)
    (h1 : SortedIn lt a m d) (h2 : SortedIn lt m b d) (hs : (m ≤ mid ∧ s0 = a ∧ r0 = m) ∨ (mid < m ∧ s0 = mid + m - b ∧ r0 = mid)) (g1 : s0 ≤ st) (g2 : st ≤ r0)
    (f1 : ∀ c, s0 ≤ c → c < st → lt d[mid + m - 1 - c]! d[c]! = false) (f2 : ∀ c, st ≤ c → c < r0 → lt d[mid + m - 1 - c]! d[c]! = true) :
    SortedIn lt a st (rotD d st m (mid + m - st)) ∧ SortedIn lt st mid (rotD d st m (mid + m - st)) ∧ SortedIn lt mid (mid + m - st) (rotD d st m (mid + m - st)) ∧ SortedIn lt (mid + m - st) b (rotD d st m (mid + m - st)) ∧
    (∀ x y, a ≤ x → x < mid → mid ≤ y → y < b → lt (rotD d st m (mid + m - st))[y]! (rotD d st m (mid + m - st))[x]! = false) := by
  have hx := cut_cross hS hmid h1 h2 hs g1 g2 f1 f2
  have e1 : st + (mid + m - st - m) = mid := by omega
  have L1 : ∀ z, a ≤ z → z < st → (rotD d st m (mid + m - st))[z]! = d[z]! := fun z z1 z2 => rotD_out (by omega) (.inl z2)
  have L2 : ∀ z, st ≤ z → z < mid → (rotD d st m (mid + m - st))[z]! = d[z + (m - st)]! := fun z z1 z2 => rotD_fst (by omega) z1 (by omega) (by omega)
  have L3 : ∀ z, mid ≤ z → z < mid + m - st → (rotD d st m (mid + m - st))[z]! = d[z - (mid + m - st - m)]! := fun z z1 z2 => rotD_snd (by omega) (by omega) z2 (by omega)
  have L4 : ∀ z, mid + m - st ≤ z → z < b → (rotD d st m (mid + m - st))[z]! = d[z]! := fun z z1 z2 => rotD_out (by omega) (.inr z1)
  refine ⟨fun x y p q r => ?_, fun x y p q r => ?_, fun x y p q r => ?_, fun x y p q r => ?_, fun x y p q r s => ?_⟩
  · rw [L1 x p (by omega), L1 y (by omega) r]; exact h1 x y p q (by omega)
  · rw [L2 x p (by omega), L2 y (by omega) r]; exact h2 _ _ (by omega) (by omega) (by omega)
  · rw [L3 x p (by omega), L3 y (by omega) r]; exact h1 _ _ (by omega) (by omega) (by omega)
  · rw [L4 x p (by omega), L4 y (by omega) r]; exact h2 _ _ (by omega) (by omega) (by omega)
  · rcases Nat.lt_or_ge x st with c1 | c1 <;> rcases Nat.lt_or_ge y (mid + m - st) with c2 | c2
    · rw [L1 x p c1, L3 y r c2]; exact hx _ _ (by omega) (by omega)
    · rw [L1 x p c1, L4 y c2 s]; exact hx _ _ (by omega) (by omega)
    · rw [L2 x c1 q, L3 y r c2]; exact hx _ _ (by omega) (by omega)
    · rw [L2 x c1 q, L4 y c2 s]; exact hx _ _ (by omega) (by omega)
theorem halves_sorted {d d1 d2 : Array α} {a mid b : Nat} (hb : b ≤ d.size) (p1 : PermIn a mid d d1) (s1 : SortedIn lt a mid d1) (p2 : PermIn mid b d1 d2) (s2 : SortedIn lt mid b d2)
    (hx : ∀ x y, a ≤ x → x < mid → mid ≤ y → y < b → lt d[y]! d[x]! = false) : SortedIn lt a b d2 := by
  have z1 := p1.1
  have hx1 : ∀ x y, a ≤ x → x < mid → mid ≤ y → y < b → lt d1[y]! d1[x]! = false := fun x y a1 a2 a3 a4 => by
    rw [p1.2.1 y (by omega)]
    exact permIn_all d d1 a mid (fun u => lt d[y]! u = false) (by omega) p1 (fun i b1 b2 => hx i y b1 b2 a3 a4) x a1 a2
  have hx2 : ∀ x y, a ≤ x → x < mid → mid ≤ y → y < b → lt d2[y]! d2[x]! = false := fun x y a1 a2 a3 a4 => by
    rw [p2.2.1 x (by omega)]
    exact permIn_all d1 d2 mid b (fun u => lt u d1[x]! = false) (by omega) p2 (fun i b1 b2 => hx1 x i a1 a2 b1 b2) y a3 a4
  intro x y p q r
  rcases Nat.lt_or_ge y mid with c | c
  · rw [p2.2.1 x (by omega), p2.2.1 y (by omega)]; exact s1 x y p q c
  · rcases Nat.lt_or_ge x mid with e | e
    · exact hx2 x y p e c r
    · exact s2 x y e q r
theorem sorted_congr {d d' : Array α} {a b : Nat} (h : SortedIn lt a b d) (he : ∀ i, a ≤ i → i < b → d'[i]! = d[i]!) : SortedIn lt a b d' := fun x y p q r => by
  rw [he x p (by omega), he y (by omega) r]; exact h x y p q r
theorem rotD_nop {d : Array α} {a m b : Nat} (h : a = m ∨ m = b) (h1 : a ≤ m) (h2 : m ≤ b) : rotD d a m b = d := by
  refine ext_at (rotD_size _ _ _ _) fun t ht => ?_
  rw [rotD_size] at ht
  rw [rotD_get ht]
  by_cases c1 : t < a ∨ b ≤ t
  · rw [if_pos c1]
  · rw [if_neg c1]
    by_cases c2 : t < a + (b - m)
    · rw [if_pos c2]; congr 1; omega
    · rw [if_neg c2]; congr 1; omega
end
end Go.Proofs.Ytfdibmcjjclgkaa.Tr
namespace Go.Proofs.Ytfdibmcjjclgkaa.Tl
open Go.Proofs Go.RowKit Go.Sort Go.Shelf Go.Lib
open Go.Proofs.Ytfdibmcjjclgkaa.Utf
open Go.Proofs.Ytfdibmcjjclgkaa.Tr

structure P4 where
  nm : List UInt8
  k : Bool
  n : Bool
  s : Int
  g : Nat
instance : Inhabited P4 := ⟨⟨[], false, false, 0, 0⟩⟩
def encP (x : P4) : List Value := [.string (strOf x.nm), .bool x.k, .bool x.n, .int .i64 x.s]
theorem encP_len (x : P4) : (encP x).length = 4 := rfl
theorem encP_one (x : P4) : ∀ v ∈ encP x, v.oneCell' = true := by
  intro v h
  simp only [encP, List.mem_cons, List.not_mem_nil, or_false] at h
  rcases h with rfl | rfl | rfl | rfl <;> rfl
def cmpI (x y : Int) : Int := if x < y then -1 else if y < x then 1 else 0
def cfP (x y : P4) : Int := cmpI x.s y.s
def ltL (x y : P4) : Bool := decide (x.s < y.s ∨ x.s = y.s ∧ x.g < y.g)
theorem ltL_swo : SWO ltL where
  irrefl x := decide_eq_false (by omega)
  trans x y z h1 h2 := by
    unfold ltL at *
    have a := of_decide_eq_true h1
    have b := of_decide_eq_true h2
    exact decide_eq_true (by omega)
  ntrans x y z h1 h2 := by
    unfold ltL at *
    have a := of_decide_eq_false h1
    have b := of_decide_eq_false h2
    exact decide_eq_false (by omega)
theorem cf_neg {x y : P4} : cfP x y < 0 ↔ x.s < y.s := by
  unfold cfP cmpI
  split
  · simp; omega
  · split <;> simp <;> omega
theorem lt_cross {x y : P4} (h : y.g < x.g) : ltL x y = true ↔ cfP x y < 0 := by
  rw [cf_neg]
  unfold ltL
  rw [decide_eq_true_iff]
  omega
theorem ge_cross {x y : P4} (h : y.g < x.g) (hG : ltL x y = false) : ¬ cfP x y < 0 := fun hn => by
  rw [(lt_cross h).2 hn] at hG; cases hG
theorem lt_same {x y : P4} (h : y.g < x.g) : ltOf cfP x y = ltL x y := by
  rw [Bool.eq_iff_iff, lt_cross h]
  unfold ltOf
  exact decide_eq_true_iff
def Crs (a m b : Nat) (d : Array P4) : Prop := ∀ i j, a ≤ i → i < m → m ≤ j → j < b → (d[i]!).g < (d[j]!).g
theorem crs_congr {a m b : Nat} {d d' : Array P4} (h : Crs a m b d) (he : ∀ i, a ≤ i → i < b → d'[i]! = d[i]!) : Crs a m b d' := fun i j h1 h2 h3 h4 => by
  rw [he i h1 (by omega), he j (by omega) h4]; exact h i j h1 h2 h3 h4
section
variable {d : Array P4} {a m b st en mid : Nat}
theorem crs_one (h : Crs a m b d) (h1 : st ≤ m) (h2 : en + st = mid + m) (h3 : m ≤ en) (h4 : en ≤ b) (_h5 : a ≤ st) (_h6 : st ≤ mid) (h7 : b ≤ d.size) : Crs a st mid (rotD d st m en) := fun i j k1 k2 k3 k4 => by
  rw [rotD_out (by omega) (.inl k2), rotD_fst (by omega) k3 (by omega) (by omega)]
  exact h _ _ k1 (by omega) (by omega) (by omega)
theorem crs_two (h : Crs a m b d) (_h1 : st ≤ m) (h2 : en + st = mid + m) (h3 : m ≤ en) (_h4 : en ≤ b) (h5 : a ≤ st) (_h6 : st ≤ mid) (h7 : b ≤ d.size) : Crs mid en b (rotD d st m en) := fun i j k1 k2 k3 k4 => by
  rw [rotD_snd (by omega) (by omega) k2 (by omega), rotD_out (by omega) (.inr k3)]
  exact h _ _ (by omega) (by omega) (by omega) (by omega)
end
theorem inner_same {a : Nat} : ∀ (j : Nat) (d : Array P4), j < d.size → (∀ p, a ≤ p → p < j → (d[p]!).g < (d[j]!).g) → insInner (ltOf cfP) a j d = insInner ltL a j d
  | 0, d, _, _ => by unfold insInner; rfl
  | j + 1, d, hj, h => by
    unfold insInner
    by_cases hc : j + 1 > a
    · have e := lt_same (x := d[j + 1]!) (y := d[j]!) (h j (by omega) (by omega))
      rw [e]
      have hs : (swp d (j + 1) j).size = d.size := size_swp _ _ _
      rw [inner_same j (swp d (j + 1) j) (by omega) (fun p p1 p2 => by
        rw [swp_other _ _ _ _ (by omega) (by omega), swp_right d (j + 1) j (by omega)]
        exact h p p1 (by omega))]
    · rw [if_neg (by simp [hc]), if_neg (by simp [hc])]
theorem inner_from {lt : P4 → P4 → Bool} {a i : Nat} : ∀ (j : Nat) (d : Array P4), j ≤ i → i < d.size →
    (insInner lt a j d).size = d.size ∧ (∀ q, i < q → (insInner lt a j d)[q]! = d[q]!) ∧ ∀ p, a ≤ p → p ≤ i → ∃ p', a ≤ p' ∧ p' ≤ i ∧ (insInner lt a j d)[p]! = d[p']!
  | 0, d, _, _ => by unfold insInner; exact ⟨rfl, fun _ _ => rfl, fun p h1 h2 => ⟨p, h1, h2, rfl⟩⟩
  | j + 1, d, hj, hi => by
    unfold insInner
    split
    · rename_i hc
      simp only [Bool.and_eq_true, decide_eq_true_eq] at hc
      have hs : (swp d (j + 1) j).size = d.size := size_swp _ _ _
      obtain ⟨k1, k2, k3⟩ := inner_from (lt := lt) (a := a) (i := i) j (swp d (j + 1) j) (by omega) (by omega)
      refine ⟨by omega, fun q hq => by rw [k2 q hq, swp_other _ _ _ _ (by omega) (by omega)], fun p h1 h2 => ?_⟩
      obtain ⟨p', q1, q2, q3⟩ := k3 p h1 h2
      by_cases e1 : p' = j + 1
      · subst e1
        exact ⟨j, by omega, by omega, by rw [q3, swp_left d (j + 1) j (by omega) (by omega)]⟩
      · by_cases e2 : p' = j
        · subst e2
          exact ⟨p' + 1, by omega, by omega, by rw [q3, swp_right d (p' + 1) p' (by omega)]⟩
        · exact ⟨p', q1, q2, by rw [q3, swp_other _ _ _ _ e1 e2]⟩
    · exact ⟨rfl, fun _ _ => rfl, fun p h1 h2 => ⟨p, h1, h2, rfl⟩⟩
theorem outer_same {a b : Nat} : ∀ (n i : Nat) (d : Array P4), b - i = n → b ≤ d.size → a < i → (∀ p q, a ≤ p → p < q → i ≤ q → q < b → (d[p]!).g < (d[q]!).g) → insOuter (ltOf cfP) a b i d = insOuter ltL a b i d
  | 0, i, d, hn, _, _, _ => by rw [insOuter, if_neg (by omega), insOuter, if_neg (by omega)]
  | n + 1, i, d, hn, hb, ha, h => by
    rw [insOuter, if_pos (by omega)]
    conv => rhs; rw [insOuter, if_pos (by omega)]
    rw [inner_same i d (by omega) (fun p p1 p2 => h p i p1 p2 (Nat.le_refl _) (by omega))]
    obtain ⟨k1, k2, k3⟩ := inner_from (lt := ltL) (a := a) (i := i) i d (Nat.le_refl _) (by omega)
    refine outer_same n (i + 1) _ (by omega) (by omega) (by omega) (fun p q p1 p2 p3 p4 => ?_)
    rw [k2 q (by omega)]
    by_cases hp : p ≤ i
    · obtain ⟨p', q1, q2, q3⟩ := k3 p p1 hp
      rw [q3]; exact h p' q q1 (by omega) (by omega) p4
    · rw [k2 p (by omega)]; exact h p q p1 p2 (by omega) p4
theorem ins_same (d : Array P4) (a b : Nat) (hb : b ≤ d.size) (h : ∀ p q, a ≤ p → p < q → q < b → (d[p]!).g < (d[q]!).g) : insertionSort (ltOf cfP) d a b = insertionSort ltL d a b := by
  unfold insertionSort
  exact outer_same _ _ _ rfl hb (by omega) fun p q h1 h2 _ h4 => h p q h1 h2 h4
def Q4 (a b : Nat) (d : Array P4) : Prop := SortedIn ltL a b d ∧ ∀ i, a ≤ i → i < b → a ≤ (d[i]!).g ∧ (d[i]!).g < b
theorem q4_congr {d d' : Array P4} {a b : Nat} (h : Q4 a b d) (he : ∀ i, a ≤ i → i < b → d'[i]! = d[i]!) : Q4 a b d' :=
  ⟨sorted_congr h.1 he, fun i h1 h2 => by rw [he i h1 h2]; exact h.2 i h1 h2⟩
theorem q4_crs {d : Array P4} {a m b : Nat} (h1 : Q4 a m d) (h2 : Q4 m b d) : Crs a m b d := fun i j a1 a2 a3 a4 => by
  have x := (h1.2 i a1 a2).2
  have y := (h2.2 j a3 a4).1
  omega
theorem q4_range {d d' : Array P4} {a b : Nat} (hb : b ≤ d.size) (h : ∀ i, a ≤ i → i < b → a ≤ (d[i]!).g ∧ (d[i]!).g < b) (p : PermIn a b d d') : ∀ i, a ≤ i → i < b → a ≤ (d'[i]!).g ∧ (d'[i]!).g < b := fun i h1 h2 =>
  of_decide_eq_true (permIn_all d d' a b (fun u => decide (a ≤ u.g ∧ u.g < b)) hb p (fun j j1 j2 => decide_eq_true (h j j1 j2)) i h1 h2)
theorem q4_join {d : Array P4} {a m b : Nat} (h1 : Q4 a m d) (h2 : Q4 m b d) (hm : a ≤ m) (hm2 : m ≤ b) : ∀ i, a ≤ i → i < b → a ≤ (d[i]!).g ∧ (d[i]!).g < b := fun i i1 i2 => by
  rcases Nat.lt_or_ge i m with c | c
  · have := h1.2 i i1 c; omega
  · have := h2.2 i c i2; omega

set_option maxHeartbeats 1000000 in
set_option maxRecDepth 100000 in
theorem isNaN_any (x : Int) (w : World) : Calls Try.prog 33 #[.int .i64 x] w fun e w' => e = .returned (.bool false) ∧ w' = w := by
  have t : (x != x) = false := by simp
  go_enter Try.func33, Try.ntmps33
  go_wp2
  go_ret
  exact ⟨rfl, rfl⟩
set_option maxHeartbeats 1000000 in
set_option maxRecDepth 100000 in
theorem cmpI_any (x y : Int) (w : World) : Calls Try.prog 30 #[.int .i64 x, .int .i64 y] w fun e w' => e = .returned (.int .i64 (cmpI x y)) ∧ w' = w := by
  obtain ⟨r, hr⟩ : ∃ r, cmpI x y = r := ⟨_, rfl⟩
  rw [hr]
  by_cases h1 : x < y
  · have t1 : decide (x < y) = true := decide_eq_true h1
    obtain rfl : r = -1 := by rw [← hr]; unfold cmpI; rw [if_pos h1]
    clear hr h1
    go_enter Try.func30, Try.ntmps30
    go_wp2_with (go_at_call 33; refine (isNaN_any _ _).mono ?_; rintro e w' ⟨rfl, rfl⟩)
    go_ret
    exact ⟨rfl, rfl⟩
  · have t1 : decide (x < y) = false := decide_eq_false h1
    by_cases h2 : y < x
    · have t2 : decide (x > y) = true := decide_eq_true h2
      have t3 : decide (y < x) = true := decide_eq_true h2
      obtain rfl : r = 1 := by rw [← hr]; unfold cmpI; rw [if_neg h1, if_pos h2]
      clear hr h1 h2
      go_enter Try.func30, Try.ntmps30
      go_wp2_with (go_at_call 33; refine (isNaN_any _ _).mono ?_; rintro e w' ⟨rfl, rfl⟩)
      go_ret
      exact ⟨rfl, rfl⟩
    · have t2 : decide (x > y) = false := decide_eq_false h2
      have t3 : decide (y < x) = false := decide_eq_false h2
      obtain rfl : r = 0 := by rw [← hr]; unfold cmpI; rw [if_neg h1, if_neg h2]
      clear hr h1 h2
      go_enter Try.func30, Try.ntmps30
      go_wp2_with (go_at_call 33; refine (isNaN_any _ _).mono ?_; rintro e w' ⟨rfl, rfl⟩)
      go_ret
      exact ⟨rfl, rfl⟩
set_option maxRecDepth 100000 in
set_option maxHeartbeats 1000000 in
theorem byLast_any (x y : P4) (W : World) : Calls Try.prog 29 #[.agg (encP x).toArray, .agg (encP y).toArray] W fun e w' => e = .returned (.int .i64 (cfP x y)) ∧ ∃ q os', w' = grow (W.drewN q) os' := by
  have hcon := fun W' => cmpI_any x.s y.s W'
  obtain ⟨xm, xk, xn, xs, xg⟩ := x
  obtain ⟨ym, yk, yn, ys, yg⟩ := y
  simp only [encP, cfP] at *
  generalize cmpI xs ys = r at *
  generalize strOf xm = X at *
  generalize strOf ym = Y at *
  go_enter Try.func29, Try.ntmps29
  go_wp2_with (go_at_call 30; refine (hcon _).mono ?_; rintro e w' ⟨rfl, rfl⟩)
  go_ret
  exact ⟨rfl, 0, _, by rw [alloc_eq_grow, alloc_eq_grow, grow_grow]; rfl⟩
theorem byLast_lays (blk off size : Nat) (w : World) : CmpLays Try.prog 29 #[] encP 4 cfP blk off size w :=
  fun _ _ _ _ x y => byLast_any x y _
end Go.Proofs.Ytfdibmcjjclgkaa.Tl
