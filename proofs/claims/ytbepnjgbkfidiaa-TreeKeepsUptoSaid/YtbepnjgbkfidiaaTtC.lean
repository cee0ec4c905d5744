import Derived.Test.YtbepnjgbkfidiaaTtA
import Derived.Sort.Lot0
import Derived.Sort.WalkB2
import Derived.Sort.WalkB12
import Derived.Deep.LoopGhost
import Derived.BigRegion
import Derived.BigQuiet
/- Plain facts on arrays: blocks exchanged, a part turned round a place, two sorted parts made one. No run of the program in this text. -/
namespace Go.Proofs.Ytbepnjgbkfidiaa.Tr
open Go.Proofs Go.Sort

section
variable {α : Type} [Inhabited α]

theorem ext_at {a b : Array α} (hs : a.size = b.size) (h : ∀ t, t < a.size → a[t]! = b[t]!) : a = b :=
  Array.ext hs fun t h1 h2 => by have := h t h1; rwa [getElem!_pos a t h1, getElem!_pos b t h2] at this
def mkA (n : Nat) (f : Nat → α) : Array α := Array.ofFn (n := n) fun i => f i.1
omit [Inhabited α] in
theorem mkA_size (n : Nat) (f : Nat → α) : (mkA n f).size = n := by simp [mkA]
theorem mkA_get {n : Nat} {f : Nat → α} {i : Nat} (h : i < n) : (mkA n f)[i]! = f i := by
  rw [getElem!_pos _ i (by rw [mkA_size]; exact h)]
  simp [mkA]

/-- the n elements from a on and those from b on, exchanged -/
def swapR (d : Array α) (a b n : Nat) : Array α := mkA d.size fun x => if a ≤ x ∧ x < a + n then d[x - a + b]! else if b ≤ x ∧ x < b + n then d[x - b + a]! else d[x]!
theorem swapR_size (d : Array α) (a b n : Nat) : (swapR d a b n).size = d.size := mkA_size _ _
theorem swapR_get {d : Array α} {a b n x : Nat} (h : x < d.size) : (swapR d a b n)[x]! = if a ≤ x ∧ x < a + n then d[x - a + b]! else if b ≤ x ∧ x < b + n then d[x - b + a]! else d[x]! := mkA_get h
theorem swapR_zero (d : Array α) (a b : Nat) : swapR d a b 0 = d := by
  refine ext_at (swapR_size _ _ _ _) fun t ht => ?_
  rw [swapR_size] at ht
  rw [swapR_get ht, if_neg (by omega), if_neg (by omega)]
theorem swapR_succ {d : Array α} {a b n : Nat} (h1 : a + (n + 1) ≤ b) (h2 : b + (n + 1) ≤ d.size) : swp (swapR d a b n) (a + n) (b + n) = swapR d a b (n + 1) := by
  refine ext_at (by rw [size_swp, swapR_size, swapR_size]) fun t ht => ?_
  rw [size_swp, swapR_size] at ht
  rw [swp_get _ (by rw [swapR_size]; omega) (by rw [swapR_size]; omega), swapR_get (x := a + n) (by omega), swapR_get (x := b + n) (by omega), swapR_get (n := n) ht, swapR_get (n := n + 1) ht]
  all_goals (repeat' split)
  all_goals first | omega | (congr 1; omega) | rfl
theorem swapR_perm {d : Array α} {a b lo hi : Nat} : ∀ n, a + n ≤ b → b + n ≤ hi → lo ≤ a → hi ≤ d.size → PermIn lo hi d (swapR d a b n) := by
  intro n
  induction n with
  | zero => intro _ _ _ _; rw [swapR_zero]; exact permIn_refl d lo hi
  | succ n ih =>
    intro h1 h2 h3 h4
    rw [← swapR_succ h1 (by omega)]
    exact permIn_trans _ _ _ _ _ (ih (by omega) (by omega) h3 h4) (swp_permIn _ lo hi (a + n) (b + n) (by omega) (by omega) (by omega) (by omega) (by rw [swapR_size]; omega))

/-- the part [a, b) turned round: what stands from m on comes first -/
def rotD (d : Array α) (a m b : Nat) : Array α := mkA d.size fun x => if x < a ∨ b ≤ x then d[x]! else if x < a + (b - m) then d[x + (m - a)]! else d[x - (b - m)]!
theorem rotD_size (d : Array α) (a m b : Nat) : (rotD d a m b).size = d.size := mkA_size _ _
theorem rotD_get {d : Array α} {a m b x : Nat} (h : x < d.size) : (rotD d a m b)[x]! = if x < a ∨ b ≤ x then d[x]! else if x < a + (b - m) then d[x + (m - a)]! else d[x - (b - m)]! := mkA_get h
theorem rotD_end {d : Array α} {m i : Nat} (h1 : i ≤ m) : rotD d (m - i) m (m + i) = swapR d (m - i) m i := by
  refine ext_at (by rw [rotD_size, swapR_size]) fun t ht => ?_
  rw [rotD_size] at ht
  rw [rotD_get ht, swapR_get ht]
  all_goals (repeat' split)
  all_goals first | omega | (congr 1; omega) | rfl
theorem rotD_gt {d : Array α} {m i j : Nat} (h1 : i ≤ m) (h2 : m + j ≤ d.size) (h3 : j < i) : rotD (swapR d (m - i) m j) (m - (i - j)) m (m + j) = rotD d (m - i) m (m + j) := by
  refine ext_at (by rw [rotD_size, swapR_size, rotD_size]) fun t ht => ?_
  rw [rotD_size, swapR_size] at ht
  rw [rotD_get (by rw [swapR_size]; exact ht), rotD_get ht]
  by_cases c1 : t < m - i ∨ m + j ≤ t
  · rw [if_pos (by omega), if_pos c1, swapR_get ht, if_neg (by omega), if_neg (by omega)]
  by_cases c5 : t < m - (i - j)
  · rw [if_pos (by omega), swapR_get ht]
    all_goals (repeat' split)
    all_goals first | omega | (congr 1; omega) | rfl
  by_cases c6 : t < m - (i - j) + (m + j - m)
  · rw [if_neg (by omega), if_pos c6, swapR_get (by omega)]
    all_goals (repeat' split)
    all_goals first | omega | (congr 1; omega) | rfl
  rw [if_neg (by omega), if_neg c6, swapR_get (by omega)]
  all_goals (repeat' split)
  all_goals first | omega | (congr 1; omega) | rfl
theorem rotD_lt {d : Array α} {m i j : Nat} (h1 : i ≤ m) (h2 : m + j ≤ d.size) (h3 : i < j) : rotD (swapR d (m - i) (m + j - i) i) (m - i) m (m + (j - i)) = rotD d (m - i) m (m + j) := by
  refine ext_at (by rw [rotD_size, swapR_size, rotD_size]) fun t ht => ?_
  rw [rotD_size, swapR_size] at ht
  rw [rotD_get (by rw [swapR_size]; exact ht), rotD_get ht]
  by_cases c1 : t < m - i ∨ m + j ≤ t
  · rw [if_pos (by omega), if_pos c1, swapR_get ht, if_neg (by omega), if_neg (by omega)]
  by_cases c5 : m + (j - i) ≤ t
  · rw [if_pos (by omega), swapR_get ht]
    all_goals (repeat' split)
    all_goals first | omega | (congr 1; omega) | rfl
  by_cases c6 : t < m - i + (m + (j - i) - m)
  · rw [if_neg (by omega), if_pos c6, swapR_get (by omega)]
    all_goals (repeat' split)
    all_goals first | omega | (congr 1; omega) | rfl
  rw [if_neg (by omega), if_neg c6, swapR_get (by omega)]
  all_goals (repeat' split)
  all_goals first | omega | (congr 1; omega) | rfl
/-- one to the right -/
theorem rotD_up {d : Array α} {a k : Nat} (h1 : a ≤ k) (h2 : k + 2 ≤ d.size) : swp (rotD d a (a + 1) (k + 1)) k (k + 1) = rotD d a (a + 1) (k + 2) := by
  refine ext_at (by rw [size_swp, rotD_size, rotD_size]) fun t ht => ?_
  rw [size_swp, rotD_size] at ht
  rw [swp_get _ (by rw [rotD_size]; omega) (by rw [rotD_size]; omega), rotD_get (b := k + 1) (x := k) (by omega), rotD_get (b := k + 1) (x := k + 1) (by omega), rotD_get (b := k + 1) ht, rotD_get (b := k + 2) ht]
  all_goals (repeat' split)
  all_goals first | omega | (congr 1; omega) | rfl
theorem rotD_one (d : Array α) (a : Nat) : rotD d a (a + 1) (a + 1) = d := by
  refine ext_at (rotD_size _ _ _ _) fun t ht => ?_
  rw [rotD_size] at ht
  rw [rotD_get ht]
  by_cases c1 : t < a ∨ a + 1 ≤ t
  · rw [if_pos c1]
  · rw [if_neg c1, if_neg (by omega)]; congr 1; omega
/-- one to the left -/
theorem rotD_down {d : Array α} {k m : Nat} (h1 : k < m) (h2 : m + 1 ≤ d.size) : swp (rotD d (k + 1) m (m + 1)) (k + 1) k = rotD d k m (m + 1) := by
  refine ext_at (by rw [size_swp, rotD_size, rotD_size]) fun t ht => ?_
  rw [size_swp, rotD_size] at ht
  rw [swp_get _ (by rw [rotD_size]; omega) (by rw [rotD_size]; omega), rotD_get (a := k + 1) (x := k) (by omega), rotD_get (a := k + 1) (x := k + 1) (by omega), rotD_get (a := k + 1) ht, rotD_get (a := k) ht]
  all_goals (repeat' split)
  all_goals first | omega | (congr 1; omega) | rfl
theorem rotD_last {d : Array α} {m : Nat} : rotD d m m (m + 1) = d := by
  refine ext_at (rotD_size _ _ _ _) fun t ht => ?_
  rw [rotD_size] at ht
  rw [rotD_get ht]
  by_cases c1 : t < m ∨ m + 1 ≤ t
  · rw [if_pos c1]
  · rw [if_neg c1, if_pos (by omega)]; congr 1; omega

variable {lt : α → α → Bool}
theorem rotD_out {d : Array α} {a m b x : Nat} (h : x < d.size) (c : x < a ∨ b ≤ x) : (rotD d a m b)[x]! = d[x]! := by rw [rotD_get h, if_pos c]
theorem rotD_fst {d : Array α} {a m b x : Nat} (h : x < d.size) (c1 : a ≤ x) (c2 : x < b) (c3 : x < a + (b - m)) : (rotD d a m b)[x]! = d[x + (m - a)]! := by rw [rotD_get h, if_neg (by omega), if_pos c3]
theorem rotD_snd {d : Array α} {a m b x : Nat} (h : x < d.size) (c1 : a ≤ x) (c2 : x < b) (c3 : a + (b - m) ≤ x) : (rotD d a m b)[x]! = d[x - (b - m)]! := by rw [rotD_get h, if_neg (by omega), if_neg (by omega)]
theorem sorted_le (hS : SWO lt) {a b : Nat} {d : Array α} (h : SortedIn lt a b d) {i j : Nat} (h1 : a ≤ i) (h2 : i ≤ j) (h3 : j < b) : lt d[j]! d[i]! = false := by
  rcases Nat.lt_or_ge i j with c | c
  · exact h i j h1 c h3
  · obtain rfl : i = j := by omega
    exact hS.irrefl _
/-- the first element brought to its place among the others -/
theorem sorted_up (hS : SWO lt) {d : Array α} {a b i : Nat} (hi1 : a + 1 ≤ i) (hi2 : i ≤ b) (hb : b ≤ d.size) (h2 : SortedIn lt (a + 1) b d) (f1 : ∀ x, a + 1 ≤ x → x < i → lt d[x]! d[a]! = true) (f2 : ∀ x, i ≤ x → x < b → lt d[x]! d[a]! = false) :
    SortedIn lt a b (rotD d a (a + 1) i) := by
  intro x y hx hxy hy
  have asym : ∀ p q, lt p q = true → lt q p = false := fun p q h => by
    rcases hq : lt q p with _ | _
    · rfl
    · have := hS.trans _ _ _ h hq
      rw [hS.irrefl] at this; cases this
  have X : ∀ z, a ≤ z → z < b → ((i ≤ z ∧ (rotD d a (a + 1) i)[z]! = d[z]!) ∨ (z + 1 < i ∧ (rotD d a (a + 1) i)[z]! = d[z + 1]!) ∨ (z + 1 = i ∧ (rotD d a (a + 1) i)[z]! = d[a]!)) := fun z z1 z2 => by
    rcases Nat.lt_or_ge z i with c | c
    · rcases Nat.lt_or_ge (z + 1) i with e | e
      · refine .inr (.inl ⟨e, ?_⟩)
        rw [rotD_fst (by omega) z1 c (by omega)]; congr 1; omega
      · refine .inr (.inr ⟨by omega, ?_⟩)
        rw [rotD_snd (by omega) z1 c (by omega)]; congr 1; omega
    · exact .inl ⟨c, rotD_out (by omega) (.inr c)⟩
  rcases X x hx (by omega) with ⟨c1, e1⟩ | ⟨c1, e1⟩ | ⟨c1, e1⟩ <;> rcases X y (by omega) hy with ⟨c2, e2⟩ | ⟨c2, e2⟩ | ⟨c2, e2⟩ <;> rw [e1, e2]
  · exact h2 x y (by omega) hxy hy
  · omega
  · omega
  · exact h2 (x + 1) y (by omega) (by omega) hy
  · exact h2 (x + 1) (y + 1) (by omega) (by omega) (by omega)
  · exact asym _ _ (f1 (x + 1) (by omega) (by omega))
  · exact f2 y (by omega) hy
  · omega
  · omega
/-- the last one -/
theorem sorted_down (hS : SWO lt) {d : Array α} {a m i : Nat} (hi1 : a ≤ i) (hi2 : i ≤ m) (hb : m + 1 ≤ d.size) (h1 : SortedIn lt a m d) (f1 : ∀ x, a ≤ x → x < i → lt d[m]! d[x]! = false) (f2 : ∀ x, i ≤ x → x < m → lt d[m]! d[x]! = true) :
    SortedIn lt a (m + 1) (rotD d i m (m + 1)) := by
  intro x y hx hxy hy
  have asym : ∀ p q, lt p q = true → lt q p = false := fun p q h => by
    rcases hq : lt q p with _ | _
    · rfl
    · have := hS.trans _ _ _ h hq
      rw [hS.irrefl] at this; cases this
  have X : ∀ z, a ≤ z → z < m + 1 → ((z < i ∧ (rotD d i m (m + 1))[z]! = d[z]!) ∨ (z = i ∧ (rotD d i m (m + 1))[z]! = d[m]!) ∨ (i < z ∧ (rotD d i m (m + 1))[z]! = d[z - 1]!)) := fun z z1 z2 => by
    rcases Nat.lt_or_ge z i with c | c
    · exact .inl ⟨c, rotD_out (by omega) (.inl c)⟩
    · rcases Nat.lt_or_ge i z with e | e
      · refine .inr (.inr ⟨e, ?_⟩)
        rw [rotD_snd (by omega) c z2 (by omega)]; congr 1; omega
      · refine .inr (.inl ⟨by omega, ?_⟩)
        rw [rotD_fst (by omega) c z2 (by omega)]; congr 1; omega
  rcases X x hx (by omega) with ⟨c1, e1⟩ | ⟨c1, e1⟩ | ⟨c1, e1⟩ <;> rcases X y (by omega) hy with ⟨c2, e2⟩ | ⟨c2, e2⟩ | ⟨c2, e2⟩ <;> rw [e1, e2]
  · exact h1 x y hx hxy (by omega)
  · exact f1 x hx c1
  · exact h1 x (y - 1) hx (by omega) (by omega)
  · omega
  · omega
  · exact asym _ _ (f2 (y - 1) (by omega) (by omega))
  · omega
  · omega
  · exact h1 (x - 1) (y - 1) (by omega) (by omega) (by omega)
/-- where two sorted parts are cut: what comes to the left isn't greater than what comes to the right -/
theorem cut_cross (hS : SWO lt) {d : Array α} {a m b mid s0 r0 st : Nat} (hmid : mid = (a + b) / 2)
    (h1 : SortedIn lt a m d) (h2 : SortedIn lt m b d) (hs : (m ≤ mid ∧ s0 = a ∧ r0 = m) ∨ (mid < m ∧ s0 = mid + m - b ∧ r0 = mid)) (g1 : s0 ≤ st) (g2 : st ≤ r0)
    (f1 : ∀ c, s0 ≤ c → c < st → lt d[mid + m - 1 - c]! d[c]! = false) (f2 : ∀ c, st ≤ c → c < r0 → lt d[mid + m - 1 - c]! d[c]! = true) :
    ∀ x y, ((a ≤ x ∧ x < st) ∨ (m ≤ x ∧ x < mid + m - st)) → ((st ≤ y ∧ y < m) ∨ (mid + m - st ≤ y ∧ y < b)) → lt d[y]! d[x]! = false := by
  intro x y hx hy
  have asym : ∀ p q, lt p q = true → lt q p = false := fun p q h => by
    rcases hq : lt q p with _ | _
    · rfl
    · have := hS.trans _ _ _ h hq
      rw [hS.irrefl] at this; cases this
  rcases hx with hx | hx <;> rcases hy with hy | hy
  · exact h1 x y hx.1 (by omega) hy.2
  · have c1 : s0 < st := by omega
    have k := f1 (st - 1) (by omega) (by omega)
    have e : mid + m - 1 - (st - 1) = mid + m - st := by omega
    rw [e] at k
    have k1 := sorted_le hS h1 (show a ≤ x from hx.1) (show x ≤ st - 1 by omega) (by omega)
    have k2 := sorted_le hS h2 (show m ≤ mid + m - st by omega) hy.1 hy.2
    exact hS.ntrans _ _ _ k2 (hS.ntrans _ _ _ k k1)
  · have c1 : st < r0 := by omega
    have k := asym _ _ (f2 st (by omega) c1)
    have k1 := sorted_le hS h2 (show m ≤ x from hx.1) (show x ≤ mid + m - 1 - st by omega) (by omega)
    have k2 := sorted_le hS h1 (show a ≤ st by omega) hy.1 hy.2
    exact hS.ntrans _ _ _ k2 (hS.ntrans _ _ _ k k1)
  · exact h2 x y hx.1 (by omega) hy.2
/-- behind the turn: both halves, and how they stand to each other -/
theorem cut_turned (hS : SWO lt) {d : Array α} {a m b mid s0 r0 st : Nat} (hmid : mid = (a + b) / 2) (ham : a < m) (hmb : m < b) (hb : b ≤ d.size)
    (h1 : SortedIn lt a m d) (h2 : SortedIn lt m b d) (hs : (m ≤ mid ∧ s0 = a ∧ r0 = m) ∨ (mid < m ∧ s0 = mid + m - b ∧ r0 = mid)) (g1 : s0 ≤ st) (g2 : st ≤ r0)
    (f1 : ∀ c, s0 ≤ c → c < st → lt d[mid + m - 1 - c]! d[c]! = false) (f2 : ∀ c, st ≤ c → c < r0 → lt d[mid + m - 1 - c]! d[c]! = true) :
    SortedIn lt a st (rotD d st m (mid + m - st)) ∧ SortedIn lt st mid (rotD d st m (mid + m - st)) ∧ SortedIn lt mid (mid + m - st) (rotD d st m (mid + m - st)) ∧ SortedIn lt (mid + m - st) b (rotD d st m (mid + m - st)) ∧
    (∀ x y, a ≤ x → x < mid → mid ≤ y → y < b → lt (rotD d st m (mid + m - st))[y]! (rotD d st m (mid + m - st))[x]! = false) := by
  have hx := cut_cross hS hmid h1 h2 hs g1 g2 f1 f2
  have e1 : st + (mid + m - st - m) = mid := by omega
  have L1 : ∀ z, a ≤ z → z < st → (rotD d st m (mid + m - st))[z]! = d[z]! := fun z z1 z2 => rotD_out (by omega) (.inl z2)
  have L2 : ∀ z, st ≤ z → z < mid → (rotD d st m (mid + m - st))[z]! = d[z + (m - st)]! := fun z z1 z2 => rotD_fst (by omega) z1 (by omega) (by omega)
  have L3 : ∀ z, mid ≤ z → z < mid + m - st → (rotD d st m (mid + m - st))[z]! = d[z - (mid + m - st - m)]! := fun z z1 z2 => rotD_snd (by omega) (by omega) z2 (by omega)
  have L4 : ∀ z, mid + m - st ≤ z → z < b → (rotD d st m (mid + m - st))[z]! = d[z]! := fun z z1 z2 => rotD_out (by omega) (.inr z1)
  refine ⟨fun x y p q r => ?_, fun x y p q r => ?_, fun x y p q r => ?_, fun x y p q r => ?_, fun x y p q r s => ?_⟩
  · rw [L1 x p (by omega), L1 y (by omega) r]; exact h1 x y p q (by omega)
  · rw [L2 x p (by omega), L2 y (by omega) r]; exact h2 _ _ (by omega) (by omega) (by omega)
  · rw [L3 x p (by omega), L3 y (by omega) r]; exact h1 _ _ (by omega) (by omega) (by omega)
  · rw [L4 x p (by omega), L4 y (by omega) r]; exact h2 _ _ (by omega) (by omega) (by omega)
  · rcases Nat.lt_or_ge x st with c1 | c1 <;> rcases Nat.lt_or_ge y (mid + m - st) with c2 | c2
    · rw [L1 x p c1, L3 y r c2]; exact hx _ _ (by omega) (by omega)
    · rw [L1 x p c1, L4 y c2 s]; exact hx _ _ (by omega) (by omega)
    · rw [L2 x c1 q, L3 y r c2]; exact hx _ _ (by omega) (by omega)
    · rw [L2 x c1 q, L4 y c2 s]; exact hx _ _ (by omega) (by omega)
/-- two halves sorted by themselves -/
theorem halves_sorted {d d1 d2 : Array α} {a mid b : Nat} (hb : b ≤ d.size) (p1 : PermIn a mid d d1) (s1 : SortedIn lt a mid d1) (p2 : PermIn mid b d1 d2) (s2 : SortedIn lt mid b d2)
    (hx : ∀ x y, a ≤ x → x < mid → mid ≤ y → y < b → lt d[y]! d[x]! = false) : SortedIn lt a b d2 := by
  have z1 := p1.1
  have hx1 : ∀ x y, a ≤ x → x < mid → mid ≤ y → y < b → lt d1[y]! d1[x]! = false := fun x y a1 a2 a3 a4 => by
    rw [p1.2.1 y (by omega)]
    exact permIn_all d d1 a mid (fun u => lt d[y]! u = false) (by omega) p1 (fun i b1 b2 => hx i y b1 b2 a3 a4) x a1 a2
  have hx2 : ∀ x y, a ≤ x → x < mid → mid ≤ y → y < b → lt d2[y]! d2[x]! = false := fun x y a1 a2 a3 a4 => by
    rw [p2.2.1 x (by omega)]
    exact permIn_all d1 d2 mid b (fun u => lt u d1[x]! = false) (by omega) p2 (fun i b1 b2 => hx1 x i a1 a2 b1 b2) y a3 a4
  intro x y p q r
  rcases Nat.lt_or_ge y mid with c | c
  · rw [p2.2.1 x (by omega), p2.2.1 y (by omega)]; exact s1 x y p q c
  · rcases Nat.lt_or_ge x mid with e | e
    · exact hx2 x y p e c r
    · exact s2 x y e q r
theorem sorted_congr {d d' : Array α} {a b : Nat} (h : SortedIn lt a b d) (he : ∀ i, a ≤ i → i < b → d'[i]! = d[i]!) : SortedIn lt a b d' := fun x y p q r => by
  rw [he x p (by omega), he y (by omega) r]; exact h x y p q r
theorem rotD_nop {d : Array α} {a m b : Nat} (h : a = m ∨ m = b) (h1 : a ≤ m) (h2 : m ≤ b) : rotD d a m b = d := by
  refine ext_at (rotD_size _ _ _ _) fun t ht => ?_
  rw [rotD_size] at ht
  rw [rotD_get ht]
  by_cases c1 : t < a ∨ b ≤ t
  · rw [if_pos c1]
  · rw [if_neg c1]
    by_cases c2 : t < a + (b - m)
    · rw [if_pos c2]; congr 1; omega
    · rw [if_neg c2]; congr 1; omega
end
end Go.Proofs.Ytbepnjgbkfidiaa.Tr
/- Contracts of the stable sort's swapRange, rotate. -/
namespace Go.Proofs.Ytbepnjgbkfidiaa.Tr
open Go.Proofs Go.RowKit Go.Sort Go.Shelf Go.Lib
open Go.Proofs.Ytbepnjgbkfidiaa.Utf

/-- a member's cells in memory, and that they may be written -/
def C6 (W : World) (b o : Nat) (x : M6) : Prop :=
  (W.cell? ⟨b, o, none⟩ = some (.string (strOf x.nm)) ∧ W.cell? ⟨b, o + 1, none⟩ = some (.int .i64 x.k) ∧ W.cell? ⟨b, o + 2, none⟩ = some (.int .i64 x.n) ∧ W.cell? ⟨b, o + 3, none⟩ = some (.string x.s) ∧ W.cell? ⟨b, o + 4, none⟩ = some (.slice x.A x.l x.c) ∧ W.cell? ⟨b, o + 5, none⟩ = some (.slice x.A2 x.m x.c2)) ∧
  (W.frozen? ⟨b, o, none⟩ = false ∧ W.frozen? ⟨b, o + 1, none⟩ = false ∧ W.frozen? ⟨b, o + 2, none⟩ = false ∧ W.frozen? ⟨b, o + 3, none⟩ = false ∧ W.frozen? ⟨b, o + 4, none⟩ = false ∧ W.frozen? ⟨b, o + 5, none⟩ = false)
theorem cells6 {w0 W : World} {blk off : Nat} {d0 dk : Array M6} (h : SWK encM 6 w0 blk off dk W) (R : RowK encM 6 w0 blk off d0) (hs : dk.size = d0.size) (i : Nat) (hi : i < dk.size) : C6 W blk (off + i * 6) dk[i]! := by
  have H := h.holds R.hblk R.hH hs
  have g := fun c (hc : c < 6) => H.cell hi hc
  exact ⟨⟨(g 0 (by omega)).1, (g 1 (by omega)).1, (g 2 (by omega)).1, (g 3 (by omega)).1, (g 4 (by omega)).1, (g 5 (by omega)).1⟩, ⟨(g 0 (by omega)).2, (g 1 (by omega)).2, (g 2 (by omega)).2, (g 3 (by omega)).2, (g 4 (by omega)).2, (g 5 (by omega)).2⟩⟩

/-- a member laid into memory -/
def put6 (W : World) (b o : Nat) (x : M6) : World :=
  (((((W.setCell ⟨b, o, none⟩ (.string (strOf x.nm))).setCell ⟨b, o + 1, none⟩ (.int .i64 x.k)).setCell ⟨b, o + 2, none⟩ (.int .i64 x.n)).setCell ⟨b, o + 3, none⟩ (.string x.s)).setCell ⟨b, o + 4, none⟩ (.slice x.A x.l x.c)).setCell ⟨b, o + 5, none⟩ (.slice x.A2 x.m x.c2)
theorem put6_eq (W : World) (b o : Nat) (x : M6) : W.setCells b o (encM x) = put6 W b o x := rfl
theorem set_drew (w : World) (a : Addr) (v : Value) : w.drew.setCell a v = (w.setCell a v).drew := rfl
theorem put6_drew (W : World) (b o : Nat) (x : M6) : put6 W.drew b o x = (put6 W b o x).drew := by
  unfold put6
  rw [set_drew, set_drew, set_drew, set_drew, set_drew, set_drew]
theorem swp6 {w0 W : World} {blk off : Nat} {d0 dk : Array M6} (h : SWK encM 6 w0 blk off dk W) (R : RowK encM 6 w0 blk off d0) (i j : Nat) (hi : i < dk.size) (hj : j < dk.size) : SWK encM 6 w0 blk off (swp dk i j) (put6 (put6 W blk (off + i * 6) dk[j]!) blk (off + j * 6) dk[i]!).drew := by
  have := h.swapped R i j hi hj
  rw [put6_eq, put6_eq, put6_drew, put6_drew] at this
  exact this

set_option maxRecDepth 1000000 in
set_option maxHeartbeats 16000000 in
theorem swapRange_any (blk off cap a b n : Nat) (fv : Value) (d0 d : Array M6) (w0 w : World) (R : RowK encM 6 w0 blk off d0) (hs : d.size = d0.size) (S : SWK encM 6 w0 blk off d w) (h1 : a + n ≤ b) (h2 : b + n ≤ d.size) (hsz : d.size < 4611686018427387904) :
    Calls Try.prog 70 #[.slice (some ⟨blk, off, none⟩) d.size cap, .int .i64 a, .int .i64 b, .int .i64 n, fv] w fun e w' => e = .returned (.tuple #[]) ∧ SWK encM 6 w0 blk off (swapR d a b n) w' := by
  have S0 : Aside (SWK encM 6 w0 blk off d w) := S
  clear S
  go_enter Try.func70, Try.ntmps70
  go_wp2_with fail
  go_loopw [10] (fun i wr => ∃ (k : Nat) (dk : Array M6), i = .int .i64 k ∧ k ≤ n ∧ dk.size = d.size ∧ Aside (dk = swapR d a b k) ∧ Aside (SWK encM 6 w0 blk off dk wr)) (fun i _ => n - (intOf i).toNat)
  case atStart => exact ⟨0, d, rfl, by omega, rfl, (swapR_zero d a b).symm, S0⟩
  case round =>
    clear S0
    obtain ⟨k, dk, rfl, hk, hds, E, S⟩ := hrel
    by_cases hlt : k < n
    · have t1 : decide ((k : Int) < (n : Int)) = true := decide_eq_true (by omega)
      have t2 : decide (k < n) = true := decide_eq_true hlt
      obtain ⟨i, hi⟩ : ∃ i, i = a + k := ⟨_, rfl⟩
      obtain ⟨j, hj⟩ : ∃ i, i = b + k := ⟨_, rfl⟩
      have wi : IntKind.i64.wrap ((a : Int) + (k : Int)) = (i : Int) := by rw [IntKind.wrap_i64]; omega
      have wj : IntKind.i64.wrap ((b : Int) + (k : Int)) = (j : Int) := by rw [IntKind.wrap_i64]; omega
      have pi : (0 : Int) ≤ (i : Int) := by omega
      have pj : (0 : Int) ≤ (j : Int) := by omega
      have bi : (i : Int) < (d.size : Int) := by omega
      have bj : (j : Int) < (d.size : Int) := by omega
      have ei : ((i : Int)).toNat = i := by omega
      have ej : ((j : Int)).toNat = j := by omega
      obtain ⟨x, hx⟩ : ∃ x, x = dk[i]! := ⟨_, rfl⟩
      obtain ⟨y, hy⟩ : ∃ x, x = dk[j]! := ⟨_, rfl⟩
      have S2 := swp6 S.out R i j (by omega) (by omega)
      have kx := cells6 S.out R (by omega) i (by omega)
      have ky := cells6 S.out R (by omega) j (by omega)
      rw [← hx] at kx S2
      rw [← hy] at ky S2
      clear hx hy
      obtain ⟨xx, xk, xn, xs, xA, xl, xc, xB, xm, xd⟩ := x
      obtain ⟨yx, yk, yn, ys, yA, yl, yc, yB, ym, yd⟩ := y
      obtain ⟨w2, hw2⟩ : ∃ w2, w2 = (put6 (put6 wr blk (off + i * 6) ⟨yx, yk, yn, ys, yA, yl, yc, yB, ym, yd⟩) blk (off + j * 6) ⟨xx, xk, xn, xs, xA, xl, xc, xB, xm, xd⟩).drew := ⟨_, rfl⟩
      rw [← hw2] at S2
      simp only [C6, put6] at kx ky hw2
      generalize strOf xx = X at *
      generalize strOf yx = Y at *
      obtain ⟨⟨a0, a1, a2, a3, a4, a5⟩, ⟨f0, f1, f2, f3, f4, f5⟩⟩ := kx
      obtain ⟨⟨b0, b1, b2, b3, b4, b5⟩, ⟨g0, g1, g2, g3, g4, g5⟩⟩ := ky
      have S3 : Aside _ := S2
      have HW2 := Lib.hid hw2
      clear S2 S hw2
      have hij : i ≠ j := by omega
      have EI : Aside (i = a + k) := hi
      have EJ : Aside (j = b + k) := hj
      clear hi hj
      go_wp2_with fail
      go_big_region
      rw [← HW2.out]
      clear a0 a1 a2 a3 a4 a5 b0 b1 b2 b3 b4 b5 f0 f1 f2 f3 f4 f5 g0 g1 g2 g3 g4 g5
      go_wp2
      go_roundw
      case rel => exact ⟨k + 1, swp dk i j, by go_num, by omega, by rw [size_swp]; exact hds, (show _ = _ by rw [EI.out, EJ.out, E.out]; exact swapR_succ (by omega) (by omega)), S3.out⟩
      case measure => simp [intOf]; omega
    · have t1 : decide ((k : Int) < (n : Int)) = false := decide_eq_false (by omega)
      have t2 : decide (k < n) = false := decide_eq_false hlt
      obtain rfl : n = k := by omega
      go_wp2
      go_end0
      exact ⟨rfl, by rw [← E.out]; exact S.out⟩
end Go.Proofs.Ytbepnjgbkfidiaa.Tr
/- Contract of the stable sort's rotate. -/
namespace Go.Proofs.Ytbepnjgbkfidiaa.Tr
open Go.Proofs Go.RowKit Go.Sort Go.Shelf Go.Lib
open Go.Proofs.Ytbepnjgbkfidiaa.Utf

set_option maxRecDepth 1000000 in
set_option maxHeartbeats 16000000 in
theorem rotate_any (blk off cap a m b : Nat) (fv : Value) (d0 d : Array M6) (w0 w : World) (R : RowK encM 6 w0 blk off d0) (hs : d.size = d0.size) (S : SWK encM 6 w0 blk off d w) (h1 : a < m) (h2 : m < b) (h3 : b ≤ d.size) (hsz : d.size < 4611686018427387904) :
    Calls Try.prog 66 #[.slice (some ⟨blk, off, none⟩) d.size cap, .int .i64 a, .int .i64 m, .int .i64 b, fv] w fun e w' => e = .returned (.tuple #[]) ∧ SWK encM 6 w0 blk off (rotD d a m b) w' ∧ PermIn a b d (rotD d a m b) := by
  have HS : Aside _ := fun (dk : Array M6) (wr : World) (x y n : Nat) (hd : dk.size = d.size) (S : SWK encM 6 w0 blk off dk wr) (g1 : x + n ≤ y) (g2 : y + n ≤ d.size) =>
    (show Calls Try.prog 70 #[.slice (some ⟨blk, off, none⟩) d.size cap, .int .i64 x, .int .i64 y, .int .i64 n, fv] wr fun e w' => e = .returned (.tuple #[]) ∧ SWK encM 6 w0 blk off (swapR dk x y n) w' from by
      have := swapRange_any blk off cap x y n fv d0 dk w0 wr R (hd.trans hs) S g1 (by omega) (by omega)
      rw [hd] at this
      exact this)
  have S0 : Aside (SWK encM 6 w0 blk off d w) := S
  clear S hs R
  go_enter Try.func66, Try.ntmps66
  go_wp2_with fail
  go_loopw [10, 11] (fun si sj wr => ∃ (i j : Nat) (dk : Array M6), si = .int .i64 i ∧ sj = .int .i64 j ∧ 1 ≤ i ∧ i ≤ m - a ∧ 1 ≤ j ∧ j ≤ b - m ∧ dk.size = d.size ∧ Aside (rotD dk (m - i) m (m + j) = rotD d a m b) ∧ Aside (PermIn a b d dk) ∧ Aside (SWK encM 6 w0 blk off dk wr)) (fun si sj _ => (intOf si).toNat + (intOf sj).toNat)
  case atStart => exact ⟨m - a, b - m, d, by go_num, by go_num, by omega, by omega, by omega, by omega, rfl, (show _ = _ by rw [show m - (m - a) = a by omega, show m + (b - m) = b by omega]), permIn_refl d a b, S0⟩
  case round =>
    clear S0
    obtain ⟨i, j, dk, rfl, rfl, i1, i2, j1, j2, hds, E, Pm, S⟩ := hrel
    by_cases he : i = j
    · subst he
      have t1 : ((i : Int) != (i : Int)) = false := by simp
      have hc := HS.out dk wr (m - i) m i hds S.out (by omega) (by omega)
      obtain ⟨mi, hmi⟩ : ∃ z, z = m - i := ⟨_, rfl⟩
      have wm : IntKind.i64.wrap ((m : Int) - (i : Int)) = (mi : Int) := by rw [IntKind.wrap_i64]; omega
      rw [← hmi] at hc
      have HM : Aside (mi = m - i) := hmi
      clear hmi
      have HCC := Lib.hid hc; clear hc
      go_wp2_with fail
      refine HCC.out.mono ?_
      rintro e w' ⟨rfl, hS⟩
      have HSS := Lib.hid hS; clear hS
      go_wp2_with fail
      have hS := HSS.out
      go_end0
      rw [HM.out, ← rotD_end (by omega)] at hS
      have hp := permIn_trans _ _ _ _ _ Pm.out (swapR_perm (d := dk) (a := m - i) (b := m) (lo := a) (hi := b) i (by omega) (by omega) (by omega) (by omega))
      rw [← rotD_end (by omega), E.out] at hp
      rw [E.out] at hS
      exact ⟨rfl, hS, hp⟩
    · have t1 : ((i : Int) != (j : Int)) = true := by rw [bne_iff_ne]; omega
      by_cases hg : j < i
      · have t2 : decide ((j : Int) < (i : Int)) = true := decide_eq_true (by omega)
        have t3 : decide (j < i) = true := decide_eq_true hg
        have hc := HS.out dk wr (m - i) m j hds S.out (by omega) (by omega)
        obtain ⟨mi, hmi⟩ : ∃ z, z = m - i := ⟨_, rfl⟩
        have wm : IntKind.i64.wrap ((m : Int) - (i : Int)) = (mi : Int) := by rw [IntKind.wrap_i64]; omega
        rw [← hmi] at hc
        have HM : Aside (mi = m - i) := hmi
        clear hmi
        have HCC := Lib.hid hc; clear hc
        go_wp2_with fail
        refine HCC.out.mono ?_
        rintro e w' ⟨rfl, hS⟩
        have HSS := Lib.hid hS; clear hS
        go_wp2_with fail
        have hS := HSS.out
        rw [HM.out] at hS
        go_roundw
        case rel =>
          exact ⟨i - j, j, _, by go_num, rfl, by omega, by omega, by omega, by omega, by rw [swapR_size]; exact hds, (show _ = _ by rw [rotD_gt (by omega) (by omega) hg]; exact E.out),
            permIn_trans _ _ _ _ _ Pm.out (swapR_perm (d := dk) (a := m - i) (b := m) (lo := a) (hi := b) j (by omega) (by omega) (by omega) (by omega)), hS⟩
        case measure => simp [intOf]; omega
      · have t2 : decide ((j : Int) < (i : Int)) = false := decide_eq_false (by omega)
        have t3 : decide (j < i) = false := decide_eq_false hg
        have hc := HS.out dk wr (m - i) (m + j - i) i hds S.out (by omega) (by omega)
        obtain ⟨mi, hmi⟩ : ∃ z, z = m - i := ⟨_, rfl⟩
        obtain ⟨mj, hmj⟩ : ∃ z, z = m + j - i := ⟨_, rfl⟩
        obtain ⟨mk, hmk⟩ : ∃ z, z = m + j := ⟨_, rfl⟩
        have wm : IntKind.i64.wrap ((m : Int) - (i : Int)) = (mi : Int) := by rw [IntKind.wrap_i64]; omega
        have wk : IntKind.i64.wrap ((m : Int) + (j : Int)) = (mk : Int) := by rw [IntKind.wrap_i64]; omega
        have wj : IntKind.i64.wrap ((mk : Int) - (i : Int)) = (mj : Int) := by rw [IntKind.wrap_i64]; omega
        rw [← hmi, ← hmj] at hc
        have HM : Aside (mi = m - i) := hmi
        have HJ : Aside (mj = m + j - i) := hmj
        clear hmi hmj hmk
        have HCC := Lib.hid hc; clear hc
        go_wp2_with fail
        refine HCC.out.mono ?_
        rintro e w' ⟨rfl, hS⟩
        have HSS := Lib.hid hS; clear hS
        go_wp2_with fail
        have hS := HSS.out
        rw [HM.out, HJ.out] at hS
        go_roundw
        case rel =>
          exact ⟨i, j - i, _, rfl, by go_num, by omega, by omega, by omega, by omega, by rw [swapR_size]; exact hds, (show _ = _ by rw [rotD_lt (by omega) (by omega) (by omega)]; exact E.out),
            permIn_trans _ _ _ _ _ Pm.out (swapR_perm (d := dk) (a := m - i) (b := m + j - i) (lo := a) (hi := b) i (by omega) (by omega) (by omega) (by omega)), hS⟩
        case measure => simp [intOf]; omega
end Go.Proofs.Ytbepnjgbkfidiaa.Tr
/- Contract of symMerge: one element on the left. Written by tools/genTrS4.py. -/
namespace Go.Proofs.Ytbepnjgbkfidiaa.Tr
open Go.Proofs Go.RowKit Go.Sort Go.Shelf Go.Lib
open Go.Proofs.Ytbepnjgbkfidiaa.Utf

/-- a member's cells, in every world that comes of W by draws and new blocks -/
def C6g (W : World) (b o : Nat) (x : M6) : Prop :=
  (∀ n os, (grow (W.drewN n) os).cell? ⟨b, o, none⟩ = some (.string (strOf x.nm))) ∧ (∀ n os, (grow (W.drewN n) os).cell? ⟨b, o + 1, none⟩ = some (.int .i64 x.k)) ∧ (∀ n os, (grow (W.drewN n) os).cell? ⟨b, o + 2, none⟩ = some (.int .i64 x.n)) ∧ (∀ n os, (grow (W.drewN n) os).cell? ⟨b, o + 3, none⟩ = some (.string x.s)) ∧ (∀ n os, (grow (W.drewN n) os).cell? ⟨b, o + 4, none⟩ = some (.slice x.A x.l x.c)) ∧ (∀ n os, (grow (W.drewN n) os).cell? ⟨b, o + 5, none⟩ = some (.slice x.A2 x.m x.c2))
theorem cells6g {w0 W : World} {blk off : Nat} {d0 dk : Array M6} (h : SWK encM 6 w0 blk off dk W) (R : RowK encM 6 w0 blk off d0) (hs : dk.size = d0.size) (i : Nat) (hi : i < dk.size) : C6g W blk (off + i * 6) dk[i]! := by
  have g := fun n os => (cells6 (h.grown n os) R hs i hi).1
  exact ⟨fun n os => (g n os).1, fun n os => (g n os).2.1, fun n os => (g n os).2.2.1, fun n os => (g n os).2.2.2.1, fun n os => (g n os).2.2.2.2.1, fun n os => (g n os).2.2.2.2.2⟩
theorem mixedOrd : Try.prog.follows .mixedOrders = true := by kernel_rfl

set_option maxRecDepth 1000000 in
set_option maxHeartbeats 16000000 in
/-- ONE ELEMENT ON THE LEFT -/
theorem symMerge_a (blk off cap a m b : Nat) (d0 d : Array M6) (w0 w : World) (R : RowK encM 6 w0 blk off d0) (hs : d.size = d0.size) (S : SWK encM 6 w0 blk off d w) (_h1 : a < m) (h2 : m < b) (h3 : b ≤ d.size) (hsz : d.size < 4611686018427387904)
    (s1 : SortedIn (ltOf cfM) a m d) (s2 : SortedIn (ltOf cfM) m b d) (hm : m = a + 1) :
    Calls Try.prog 59 #[.slice (some ⟨blk, off, none⟩) d.size cap, .int .i64 a, .int .i64 m, .int .i64 b, .func (.func 42) #[] #[]] w fun e w' => e = .returned (.tuple #[]) ∧ ∃ d', SWK encM 6 w0 blk off d' w' ∧ PermIn a b d d' ∧ SortedIn (ltOf cfM) a b d' := by
  have mixed := mixedOrd
  have HS0 : Aside (d.size = d0.size) := hs
  have S0 : Aside (SWK encM 6 w0 blk off d w) := S
  have Q1 : Aside _ := s1
  have Q2 : Aside _ := s2
  have e58 : ∀ args w, (callFunc 42 args).run Try.prog w = .ok (.enter 42 args) w := enters_of Try.func42 (by kernel_rfl) rfl
  clear S hs s1 s2
  have t1 : (((m : Int) - (a : Int)) == 1) = true := by rw [beq_iff_eq]; omega
  have t1b : (m : Int) - (a : Int) = 1 := by omega
  have HM : Aside (m = a + 1) := hm
  have hma : a + 1 ≤ m := by omega
  clear hm
  go_enter Try.func59, Try.ntmps59
  go_wp2_with fail
  go_loopw [10, 11] (fun si sj wr => ∃ i j : Nat, si = .int .i64 i ∧ sj = .int .i64 j ∧ m ≤ i ∧ i ≤ j ∧ j ≤ b ∧ Aside (SWK encM 6 w0 blk off d wr) ∧ Aside ((∀ x, a + 1 ≤ x → x < i → ltOf cfM d[x]! d[a]! = true) ∧ (∀ x, j ≤ x → x < b → ltOf cfM d[x]! d[a]! = false))) (fun si sj _ => (intOf sj).toNat - (intOf si).toNat)
  case atStart => exact ⟨m, b, rfl, rfl, by omega, by omega, by omega, S0, (show _ ∧ _ from ⟨fun x g1 g2 => by have := HM.out; omega, fun x g1 g2 => by omega⟩)⟩
  case round =>
    clear S0
    obtain ⟨i, j, rfl, rfl, hmi, hij, hjb, S, I⟩ := hrel
    by_cases hlt : i < j
    · have t2 : decide ((i : Int) < (j : Int)) = true := decide_eq_true (by omega)
      have t3 : decide (i < j) = true := decide_eq_true hlt
      obtain ⟨h, hhh⟩ : ∃ z, z = (i + j) / 2 := ⟨_, rfl⟩
      have wh : ((i : Int) + (j : Int)) / 2 = (h : Int) := by omega
      have loh : i ≤ h := by omega
      have uph : h < j := by omega
      clear hhh
      have pih : (0 : Int) ≤ (h : Int) := by omega
      have bih : (h : Int) < (d.size : Int) := by omega
      have eih : ((h : Int)).toNat = h := by omega
      have pia : (0 : Int) ≤ (a : Int) := by omega
      have bia : (a : Int) < (d.size : Int) := by omega
      have eia : ((a : Int)).toNat = a := by omega
      have hds : d.size = d0.size := HS0.out
      have ha : a < h := by omega
      cases hG : ltOf cfM d[h]! d[a]! with
      | true =>
        have HG : Aside _ := hG
        obtain ⟨x8, hx8⟩ : ∃ x, x = d[h]! := ⟨_, rfl⟩
        obtain ⟨y8, hy8⟩ : ∃ x, x = d[a]! := ⟨_, rfl⟩
        have kx8 := cells6g S.out R HS0.out h (by omega)
        have ky8 := cells6g S.out R HS0.out a (by omega)
        have hc8 := SWK.cmp (P := Try.prog) S.out (byName_lays blk off d0.size w0) HS0.out x8 y8
        rw [← hx8] at kx8
        rw [← hy8] at ky8
        have hv8 : cfM x8 y8 < 0 := by rw [hx8, hy8]; exact of_decide_eq_true hG
        have hd8 : decide (cfM x8 y8 < 0) = true := decide_eq_true hv8
        clear hx8 hy8
        generalize cfM x8 y8 = r8 at hc8 hv8 hd8
        obtain ⟨xx8, xk8, xn8, xs8, xA8, xl8, xc8, xB8, xm8, xd8⟩ := x8
        obtain ⟨yx8, yk8, yn8, ys8, yA8, yl8, yc8, yB8, ym8, yd8⟩ := y8
        simp only [encM] at hc8
        simp only [C6g] at kx8 ky8
        generalize strOf xx8 = X8 at *
        generalize strOf yx8 = Y8 at *
        obtain ⟨a08, a18, a28, a38, a48, a58⟩ := kx8
        obtain ⟨b08, b18, b28, b38, b48, b58⟩ := ky8
        clear hG hds
        go_wp2_with fail
        go_quiet_grown (first | (go_at_fn 42; refine Calls.grown_of (hc8 _ _)))
        have S2 : Aside (SWK encM 6 w0 blk off d (grow (wr.drewN nq) osq)) := S.out.grown nq osq
        clear a08 a18 a28 a38 a48 a58 b08 b18 b28 b38 b48 b58 hc8 S
        generalize grow (wr.drewN nq) osq = w2 at S2 ⊢
        clear nq osq
        go_wp2
        go_roundw
        case rel =>
          refine ⟨h + 1, j, by go_num, rfl, by omega, by omega, hjb, S2, ?_⟩
          refine (show _ ∧ _ from ⟨fun x g1 g2 => ?_, I.out.2⟩)
          rcases Nat.lt_or_ge x h with c | c
          · have k := sorted_le ltM_swo Q2.out (show m ≤ x by have := HM.out; omega) (show x ≤ h by omega) (by omega)
            cases hq : ltOf cfM d[x]! d[a]! with
            | true => rfl
            | false => have := ltM_swo.ntrans _ _ _ k hq; rw [HG.out] at this; cases this
          · obtain rfl : x = h := by omega
            exact HG.out
        case measure => simp [intOf]; omega
      | false =>
        have HG : Aside _ := hG
        obtain ⟨x8, hx8⟩ : ∃ x, x = d[h]! := ⟨_, rfl⟩
        obtain ⟨y8, hy8⟩ : ∃ x, x = d[a]! := ⟨_, rfl⟩
        have kx8 := cells6g S.out R HS0.out h (by omega)
        have ky8 := cells6g S.out R HS0.out a (by omega)
        have hc8 := SWK.cmp (P := Try.prog) S.out (byName_lays blk off d0.size w0) HS0.out x8 y8
        rw [← hx8] at kx8
        rw [← hy8] at ky8
        have hv8 : ¬ cfM x8 y8 < 0 := by rw [hx8, hy8]; exact of_decide_eq_false hG
        have hd8 : decide (cfM x8 y8 < 0) = false := decide_eq_false hv8
        clear hx8 hy8
        generalize cfM x8 y8 = r8 at hc8 hv8 hd8
        obtain ⟨xx8, xk8, xn8, xs8, xA8, xl8, xc8, xB8, xm8, xd8⟩ := x8
        obtain ⟨yx8, yk8, yn8, ys8, yA8, yl8, yc8, yB8, ym8, yd8⟩ := y8
        simp only [encM] at hc8
        simp only [C6g] at kx8 ky8
        generalize strOf xx8 = X8 at *
        generalize strOf yx8 = Y8 at *
        obtain ⟨a08, a18, a28, a38, a48, a58⟩ := kx8
        obtain ⟨b08, b18, b28, b38, b48, b58⟩ := ky8
        clear hG hds
        go_wp2_with fail
        go_quiet_grown (first | (go_at_fn 42; refine Calls.grown_of (hc8 _ _)))
        have S2 : Aside (SWK encM 6 w0 blk off d (grow (wr.drewN nq) osq)) := S.out.grown nq osq
        clear a08 a18 a28 a38 a48 a58 b08 b18 b28 b38 b48 b58 hc8 S
        generalize grow (wr.drewN nq) osq = w2 at S2 ⊢
        clear nq osq
        go_wp2
        go_roundw
        case rel =>
          refine ⟨i, h, rfl, rfl, hmi, by omega, by omega, S2, ?_⟩
          refine (show _ ∧ _ from ⟨I.out.1, fun x g1 g2 => ?_⟩)
          have k := sorted_le ltM_swo Q2.out (show m ≤ h by omega) g1 g2
          exact ltM_swo.ntrans _ _ _ k HG.out
        case measure => simp [intOf]; omega
    · obtain rfl : j = i := by omega
      have t2 : decide ((j : Int) < (j : Int)) = false := decide_eq_false (by omega)
      have t3 : decide (j < j) = false := decide_eq_false (by omega)
      have S1 : Aside _ := S
      clear S
      go_wp2_with fail
      go_loopw [13] (fun sk wr2 => ∃ (k : Nat) (dk : Array M6), sk = .int .i64 k ∧ a ≤ k ∧ k + 1 ≤ j ∧ dk.size = d.size ∧ Aside (dk = rotD d a (a + 1) (k + 1)) ∧ Aside (PermIn a b d dk) ∧ Aside (SWK encM 6 w0 blk off dk wr2)) (fun sk _ => j - (intOf sk).toNat)
      case atStart => exact ⟨a, d, rfl, by omega, by omega, rfl, (rotD_one d a).symm, permIn_refl d a b, S1⟩
      case round =>
        clear S1
        obtain ⟨k, dk, rfl, hak, hkj, hdk, E, Pm, S⟩ := hrel
        by_cases hlt2 : k + 1 < j
        · obtain ⟨c, hc⟩ : ∃ c, c = k + 1 := ⟨_, rfl⟩
          have wc : IntKind.i64.wrap ((k : Int) + 1) = (c : Int) := by rw [IntKind.wrap_i64]; omega
          have wc2 : (k : Int) + 1 = (c : Int) := by omega
          have t4 : decide ((k : Int) < (j : Int) - 1) = true := decide_eq_true (by omega)
          have t4b : (k : Int) < (j : Int) - 1 := by omega
          have hckl : k < c := by omega
          have hcj : c < j := by omega
          have EC : Aside (c = k + 1) := hc
          clear hc
          have pic : (0 : Int) ≤ (c : Int) := by omega
          have bic : (c : Int) < (d.size : Int) := by omega
          have eic : ((c : Int)).toNat = c := by omega
          have pik : (0 : Int) ≤ (k : Int) := by omega
          have bik : (k : Int) < (d.size : Int) := by omega
          have eik : ((k : Int)).toNat = k := by omega
          obtain ⟨x9, hx9⟩ : ∃ x, x = dk[k]! := ⟨_, rfl⟩
          obtain ⟨y9, hy9⟩ : ∃ x, x = dk[c]! := ⟨_, rfl⟩
          have SS9 := swp6 S.out R k c (by omega) (by omega)
          have kx9 := cells6 S.out R (by have := HS0.out; omega) k (by omega)
          have ky9 := cells6 S.out R (by have := HS0.out; omega) c (by omega)
          rw [← hx9] at kx9 SS9
          rw [← hy9] at ky9 SS9
          clear hx9 hy9
          obtain ⟨xx9, xk9, xn9, xs9, xA9, xl9, xc9, xB9, xm9, xd9⟩ := x9
          obtain ⟨yx9, yk9, yn9, ys9, yA9, yl9, yc9, yB9, ym9, yd9⟩ := y9
          obtain ⟨w2, hw9⟩ : ∃ w2, w2 = (put6 (put6 wr blk (off + k * 6) ⟨yx9, yk9, yn9, ys9, yA9, yl9, yc9, yB9, ym9, yd9⟩) blk (off + c * 6) ⟨xx9, xk9, xn9, xs9, xA9, xl9, xc9, xB9, xm9, xd9⟩).drew := ⟨_, rfl⟩
          rw [← hw9] at SS9
          simp only [C6, put6] at kx9 ky9 hw9
          generalize strOf xx9 = X9 at *
          generalize strOf yx9 = Y9 at *
          obtain ⟨⟨a09, a19, a29, a39, a49, a59⟩, ⟨f09, f19, f29, f39, f49, f59⟩⟩ := kx9
          obtain ⟨⟨b09, b19, b29, b39, b49, b59⟩, ⟨g09, g19, g29, g39, g49, g59⟩⟩ := ky9
          have S2 : Aside _ := SS9
          have HW9 := Lib.hid hw9
          clear SS9 S hw9
          have hij9 : k ≠ c := by omega
          have HDK : Aside (dk.size = d.size) := hdk
          clear hdk
          go_wp2_with fail
          go_big_region
          rw [← HW9.out]
          clear a09 a19 a29 a39 a49 a59 b09 b19 b29 b39 b49 b59 f09 f19 f29 f39 f49 f59 g09 g19 g29 g39 g49 g59 HW9
          go_wp2
          go_roundw
          case rel =>
            have hdk := HDK.out
            refine ⟨c, swp dk k c, by go_num, by omega, by omega, by rw [size_swp]; exact hdk, (show _ = _ by rw [EC.out, E.out]; exact rotD_up hak (by omega)), (show PermIn _ _ _ _ from permIn_trans _ _ _ _ _ Pm.out (swp_permIn dk a b k c (by omega) (by omega) (by omega) (by omega) (by omega))), S2⟩
          case measure => simp [intOf]; omega
        · have t4 : decide ((k : Int) < (j : Int) - 1) = false := decide_eq_false (by omega)
          have t4b : ¬ (k : Int) < (j : Int) - 1 := by omega
          have hkj2 : k + 1 = j := by omega
          have HKJ : Aside (k + 1 = j) := hkj2
          clear hkj2
          go_wp2
          (try simp only [Exit.inBlock, Exit.then]); refine bodyPost_ret (results_none rfl _ _ _) rfl ?_
          refine ⟨rfl, dk, S.out, Pm.out, ?_⟩
          rw [E.out, HKJ.out]
          exact sorted_up ltM_swo (by omega) (by omega) h3 (by rw [← HM.out]; exact Q2.out) I.out.1 I.out.2
end Go.Proofs.Ytbepnjgbkfidiaa.Tr
/- Contract of symMerge: the left part is the longer one. Written by tools/genTrS4.py. -/
namespace Go.Proofs.Ytbepnjgbkfidiaa.Tr
open Go.Proofs Go.RowKit Go.Sort Go.Shelf Go.Lib
open Go.Proofs.Ytbepnjgbkfidiaa.Utf

section
variable {lt : M6 → M6 → Bool}
theorem cut_done (hS : SWO lt) {d d2 d3 : Array M6} {a m b mid s0 r0 st : Nat} (hmid : mid = (a + b) / 2) (ham : a < m) (hmb : m < b) (hb : b ≤ d.size)
    (h1 : SortedIn lt a m d) (h2 : SortedIn lt m b d) (hs : (m ≤ mid ∧ s0 = a ∧ r0 = m) ∨ (mid < m ∧ s0 = mid + m - b ∧ r0 = mid)) (g1 : s0 ≤ st) (g2 : st ≤ r0)
    (f1 : ∀ c, s0 ≤ c → c < st → lt d[mid + m - 1 - c]! d[c]! = false) (f2 : ∀ c, st ≤ c → c < r0 → lt d[mid + m - 1 - c]! d[c]! = true)
    (p1 : PermIn st (mid + m - st) d (rotD d st m (mid + m - st))) (p2 : PermIn a mid (rotD d st m (mid + m - st)) d2) (c2 : SortedIn lt a mid d2 ∨ (d2 = rotD d st m (mid + m - st) ∧ (st ≤ a ∨ mid ≤ st)))
    (p3 : PermIn mid b d2 d3) (c3 : SortedIn lt mid b d3 ∨ (d3 = d2 ∧ (mid + m - st ≤ mid ∨ b ≤ mid + m - st))) : PermIn a b d d3 ∧ SortedIn lt a b d3 := by
  obtain ⟨x1, x2, x3, x4, hx⟩ := cut_turned hS hmid ham hmb hb h1 h2 hs g1 g2 f1 f2
  have hsz1 := rotD_size d st m (mid + m - st)
  have e2 := p2.1
  have e3 := p3.1
  have q2 : SortedIn lt a mid d2 := by
    rcases c2 with c | ⟨e, c⟩
    · exact c
    · rw [e]
      rcases c with c | c
      · obtain rfl : st = a := by omega
        exact x2
      · obtain rfl : st = mid := by omega
        exact x1
  have q3 : SortedIn lt mid b d3 := by
    rcases c3 with c | ⟨e, c⟩
    · exact c
    · rw [e]
      have k : ∀ i, mid ≤ i → i < b → d2[i]! = (rotD d st m (mid + m - st))[i]! := fun i i1 i2 => p2.2.1 i (by omega)
      rcases c with c | c
      · have ee : mid + m - st = mid := by omega
        rw [ee] at x4 k
        exact sorted_congr x4 k
      · have ee : mid + m - st = b := by omega
        rw [ee] at x3 k
        exact sorted_congr x3 k
  exact ⟨permIn_trans _ _ _ _ _ (permIn_mono _ _ _ _ _ _ (by omega) (by omega) hb p1) (permIn_trans _ _ _ _ _ (permIn_mono _ _ _ _ _ _ (by omega) (by omega) (by omega) p2) (permIn_mono _ _ _ _ _ _ (by omega) (by omega) (by omega) p3)),
    halves_sorted (by omega) p2 q2 p3 q3 hx⟩
end

set_option maxRecDepth 1000000 in
set_option maxHeartbeats 16000000 in
/-- THE LEFT PART IS THE LONGER ONE -/
theorem symMerge_c1 (blk off cap a m b : Nat) (d0 d : Array M6) (w0 w : World) (R : RowK encM 6 w0 blk off d0) (hs : d.size = d0.size) (S : SWK encM 6 w0 blk off d w) (h1 : a < m) (h2 : m < b) (h3 : b ≤ d.size) (hsz : d.size < 4611686018427387904)
    (s1 : SortedIn (ltOf cfM) a m d) (s2 : SortedIn (ltOf cfM) m b d) (hna : a + 1 < m) (hnb : m + 1 < b) (mid : Nat) (hmid : mid = (a + b) / 2) (hc : mid < m) (IH : ∀ (a' m' b' : Nat) (d' : Array M6) (w' : World), d'.size = d.size → SWK encM 6 w0 blk off d' w' → a' < m' → m' < b' → b' ≤ d.size → b' - a' < b - a → SortedIn (ltOf cfM) a' m' d' → SortedIn (ltOf cfM) m' b' d' →
      Calls Try.prog 59 #[.slice (some ⟨blk, off, none⟩) d.size cap, .int .i64 a', .int .i64 m', .int .i64 b', .func (.func 42) #[] #[]] w' fun e w'' => e = .returned (.tuple #[]) ∧ ∃ d'', SWK encM 6 w0 blk off d'' w'' ∧ PermIn a' b' d' d'' ∧ SortedIn (ltOf cfM) a' b' d'') :
    Calls Try.prog 59 #[.slice (some ⟨blk, off, none⟩) d.size cap, .int .i64 a, .int .i64 m, .int .i64 b, .func (.func 42) #[] #[]] w fun e w' => e = .returned (.tuple #[]) ∧ ∃ d', SWK encM 6 w0 blk off d' w' ∧ PermIn a b d d' ∧ SortedIn (ltOf cfM) a b d' := by
  have mixed := mixedOrd
  have HS0 : Aside (d.size = d0.size) := hs
  have S0 : Aside (SWK encM 6 w0 blk off d w) := S
  have Q1 : Aside _ := s1
  have Q2 : Aside _ := s2
  have e58 : ∀ args w, (callFunc 42 args).run Try.prog w = .ok (.enter 42 args) w := enters_of Try.func42 (by kernel_rfl) rfl
  clear S hs s1 s2
  have JH : Aside _ := IH
  clear IH
  have IH := JH
  clear JH
  have u1 : (((m : Int) - (a : Int)) == 1) = false := by rw [beq_eq_false_iff_ne]; omega
  have u1b : ¬ (m : Int) - (a : Int) = 1 := by omega
  have u1c : (((b : Int) - (m : Int)) == 1) = false := by rw [beq_eq_false_iff_ne]; omega
  have u1d : ¬ (b : Int) - (m : Int) = 1 := by omega
  have wmid : ((a : Int) + (b : Int)) / 2 = (mid : Int) := by omega
  have m1 : 2 * mid ≤ a + b := by omega
  have m2 : a + b ≤ 2 * mid + 1 := by omega
  have HMID : Aside (mid = (a + b) / 2) := hmid
  clear hmid
  obtain ⟨n, hn⟩ : ∃ n, n = mid + m := ⟨_, rfl⟩
  have wn : IntKind.i64.wrap ((mid : Int) + (m : Int)) = (n : Int) := by rw [IntKind.wrap_i64]; omega
  have wn2 : (mid : Int) + (m : Int) = (n : Int) := by omega
  have n1 : n ≤ mid + m := by omega
  have n2 : mid + m ≤ n := by omega
  have HN : Aside (n = mid + m) := hn
  clear hn
  obtain ⟨p, hp⟩ : ∃ p, n = p + 1 := ⟨n - 1, by omega⟩
  have wp : IntKind.i64.wrap ((n : Int) - 1) = (p : Int) := by rw [IntKind.wrap_i64]; omega
  have wp2 : (n : Int) - 1 = (p : Int) := by omega
  have p1 : n ≤ p + 1 := by omega
  have p2 : p + 1 ≤ n := by omega
  have HP : Aside (p = mid + m - 1) := (show _ = _ by have := HN.out; omega)
  clear hp
  have u2a : decide ((mid : Int) < (m : Int)) = true := decide_eq_true (by omega)
  have u2b : decide (mid < m) = true := decide_eq_true (by omega)
  have u2c : ((mid : Int) < (m : Int)) := by omega
  obtain ⟨s0, hs0⟩ : ∃ s, s = n - b := ⟨_, rfl⟩
  have ws : IntKind.i64.wrap ((n : Int) - (b : Int)) = (s0 : Int) := by rw [IntKind.wrap_i64]; omega
  have ws2 : (n : Int) - (b : Int) = (s0 : Int) := by omega
  have s1 : s0 + b ≤ n := by omega
  have s2 : n ≤ s0 + b := by omega
  clear hs0
  go_enter Try.func59, Try.ntmps59
  go_wp2_with fail
  go_loopw [20, 21] (fun si sj wr => ∃ i j : Nat, si = .int .i64 i ∧ sj = .int .i64 j ∧ s0 ≤ i ∧ i ≤ j ∧ j ≤ mid ∧ Aside (SWK encM 6 w0 blk off d wr) ∧ Aside ((∀ c, s0 ≤ c → c < i → ltOf cfM d[p - c]! d[c]! = false) ∧ (∀ c, j ≤ c → c < mid → ltOf cfM d[p - c]! d[c]! = true))) (fun si sj _ => (intOf sj).toNat - (intOf si).toNat)
  case atStart => exact ⟨s0, mid, rfl, rfl, by omega, by omega, by omega, S0, (show _ ∧ _ from ⟨fun x g1 g2 => by omega, fun x g1 g2 => by omega⟩)⟩
  case round =>
    clear S0
    obtain ⟨i, j, rfl, rfl, hai, hij, hjm, S, I⟩ := hrel
    by_cases hlt : i < j
    · have t2 : decide ((i : Int) < (j : Int)) = true := decide_eq_true (by omega)
      have t3 : decide (i < j) = true := decide_eq_true hlt
      obtain ⟨c, hhc⟩ : ∃ z, z = (i + j) / 2 := ⟨_, rfl⟩
      have wc : ((i : Int) + (j : Int)) / 2 = (c : Int) := by omega
      have loc : i ≤ c := by omega
      have upc : c < j := by omega
      clear hhc
      obtain ⟨q, hq⟩ : ∃ q, q + c = p := ⟨p - c, by omega⟩
      have wq : IntKind.i64.wrap ((p : Int) - (c : Int)) = (q : Int) := by rw [IntKind.wrap_i64]; omega
      have wq2 : (p : Int) - (c : Int) = (q : Int) := by omega
      have wq3 : IntKind.i64.wrap (q : Int) = (q : Int) := by rw [IntKind.wrap_i64]; omega
      have q1 : q + c ≤ p := by omega
      have q2 : p ≤ q + c := by omega
      have HQ : Aside (p - c = q) := (show _ = _ by omega)
      clear hq
      have qm : m ≤ q := by omega
      have qb : q < b := by omega
      have cm : c < m := by omega
      have pic : (0 : Int) ≤ (c : Int) := by omega
      have bic : (c : Int) < (d.size : Int) := by omega
      have eic : ((c : Int)).toNat = c := by omega
      have piq : (0 : Int) ≤ (q : Int) := by omega
      have biq : (q : Int) < (d.size : Int) := by omega
      have eiq : ((q : Int)).toNat = q := by omega
      cases hG : ltOf cfM d[q]! d[c]! with
      | true =>
        have HG : Aside _ := hG
        obtain ⟨x8, hx8⟩ : ∃ x, x = d[q]! := ⟨_, rfl⟩
        obtain ⟨y8, hy8⟩ : ∃ x, x = d[c]! := ⟨_, rfl⟩
        have kx8 := cells6g S.out R HS0.out q (by omega)
        have ky8 := cells6g S.out R HS0.out c (by omega)
        have hc8 := SWK.cmp (P := Try.prog) S.out (byName_lays blk off d0.size w0) HS0.out x8 y8
        rw [← hx8] at kx8
        rw [← hy8] at ky8
        have hv8 : cfM x8 y8 < 0 := by rw [hx8, hy8]; exact of_decide_eq_true hG
        have hd8 : decide (cfM x8 y8 < 0) = true := decide_eq_true hv8
        clear hx8 hy8
        generalize cfM x8 y8 = r8 at hc8 hv8 hd8
        obtain ⟨xx8, xk8, xn8, xs8, xA8, xl8, xc8, xB8, xm8, xd8⟩ := x8
        obtain ⟨yx8, yk8, yn8, ys8, yA8, yl8, yc8, yB8, ym8, yd8⟩ := y8
        simp only [encM] at hc8
        simp only [C6g] at kx8 ky8
        generalize strOf xx8 = X8 at *
        generalize strOf yx8 = Y8 at *
        obtain ⟨a08, a18, a28, a38, a48, a58⟩ := kx8
        obtain ⟨b08, b18, b28, b38, b48, b58⟩ := ky8
        clear hG
        go_wp2_with fail
        go_quiet_grown (first | (go_at_fn 42; refine Calls.grown_of (hc8 _ _)))
        have S2 : Aside (SWK encM 6 w0 blk off d (grow (wr.drewN nq) osq)) := S.out.grown nq osq
        clear a08 a18 a28 a38 a48 a58 b08 b18 b28 b38 b48 b58 hc8 S
        generalize grow (wr.drewN nq) osq = w2 at S2 ⊢
        clear nq osq
        go_wp2
        go_roundw
        case rel =>
          refine ⟨i, c, rfl, rfl, hai, by omega, by omega, S2, ?_⟩
          refine (show _ ∧ _ from ⟨I.out.1, fun x g1 g2 => ?_⟩)
          have k1 := sorted_le ltM_swo Q1.out (show a ≤ c by omega) g1 (by omega)
          have k2 := sorted_le ltM_swo Q2.out (show m ≤ p - x by omega) (show p - x ≤ q by omega) (by omega)
          cases hq : ltOf cfM d[p - x]! d[x]! with
          | true => rfl
          | false => have := ltM_swo.ntrans _ _ _ k2 (ltM_swo.ntrans _ _ _ hq k1); rw [HG.out] at this; cases this
        case measure => simp [intOf]; omega
      | false =>
        have HG : Aside _ := hG
        obtain ⟨x8, hx8⟩ : ∃ x, x = d[q]! := ⟨_, rfl⟩
        obtain ⟨y8, hy8⟩ : ∃ x, x = d[c]! := ⟨_, rfl⟩
        have kx8 := cells6g S.out R HS0.out q (by omega)
        have ky8 := cells6g S.out R HS0.out c (by omega)
        have hc8 := SWK.cmp (P := Try.prog) S.out (byName_lays blk off d0.size w0) HS0.out x8 y8
        rw [← hx8] at kx8
        rw [← hy8] at ky8
        have hv8 : ¬ cfM x8 y8 < 0 := by rw [hx8, hy8]; exact of_decide_eq_false hG
        have hd8 : decide (cfM x8 y8 < 0) = false := decide_eq_false hv8
        clear hx8 hy8
        generalize cfM x8 y8 = r8 at hc8 hv8 hd8
        obtain ⟨xx8, xk8, xn8, xs8, xA8, xl8, xc8, xB8, xm8, xd8⟩ := x8
        obtain ⟨yx8, yk8, yn8, ys8, yA8, yl8, yc8, yB8, ym8, yd8⟩ := y8
        simp only [encM] at hc8
        simp only [C6g] at kx8 ky8
        generalize strOf xx8 = X8 at *
        generalize strOf yx8 = Y8 at *
        obtain ⟨a08, a18, a28, a38, a48, a58⟩ := kx8
        obtain ⟨b08, b18, b28, b38, b48, b58⟩ := ky8
        clear hG
        go_wp2_with fail
        go_quiet_grown (first | (go_at_fn 42; refine Calls.grown_of (hc8 _ _)))
        have S2 : Aside (SWK encM 6 w0 blk off d (grow (wr.drewN nq) osq)) := S.out.grown nq osq
        clear a08 a18 a28 a38 a48 a58 b08 b18 b28 b38 b48 b58 hc8 S
        generalize grow (wr.drewN nq) osq = w2 at S2 ⊢
        clear nq osq
        go_wp2
        go_roundw
        case rel =>
          refine ⟨c + 1, j, by go_num, rfl, by omega, by omega, hjm, S2, ?_⟩
          refine (show _ ∧ _ from ⟨fun x g1 g2 => ?_, I.out.2⟩)
          have k1 := sorted_le ltM_swo Q1.out (show a ≤ x by omega) (show x ≤ c by omega) (by omega)
          have k2 := sorted_le ltM_swo Q2.out (show m ≤ q by omega) (show q ≤ p - x by omega) (by omega)
          exact ltM_swo.ntrans _ _ _ k2 (ltM_swo.ntrans _ _ _ HG.out k1)
        case measure => simp [intOf]; omega
    · obtain ⟨st, hst⟩ : ∃ st, st = i := ⟨_, rfl⟩
      have hji : j = i := by omega
      subst hji
      subst hst
      have t2 : decide ((st : Int) < (st : Int)) = false := decide_eq_false (by omega)
      have t3 : decide (st < st) = false := decide_eq_false (by omega)
      clear hlt
      obtain ⟨en, hen⟩ : ∃ en, en + st = n := ⟨n - st, by omega⟩
      have we : IntKind.i64.wrap ((n : Int) - (st : Int)) = (en : Int) := by rw [IntKind.wrap_i64]; omega
      have we2 : (n : Int) - (st : Int) = (en : Int) := by omega
      have e1 : en + st ≤ n := by omega
      have e2 : n ≤ en + st := by omega
      have HE : Aside (mid + m - st = en) := (show _ = _ by have := HN.out; omega)
      clear hen
      have hmen : m ≤ en := by omega
      have henb : en ≤ b := by omega
      have hast : a ≤ st := by omega
      have hstm : st ≤ mid := by omega
      have hmen2 : mid ≤ en := by omega
      have Xc := cut_turned ltM_swo HMID.out h1 h2 h3 Q1.out Q2.out (.inr ⟨hc, by omega, rfl⟩) hai hjm (by rw [← HP.out]; exact I.out.1) (by rw [← HP.out]; exact I.out.2)
      have CUT : Aside _ := fun {d2 d3 : Array M6} p1 => cut_done (d2 := d2) (d3 := d3) ltM_swo HMID.out h1 h2 h3 Q1.out Q2.out (.inr ⟨hc, by omega, rfl⟩) hai hjm (by rw [← HP.out]; exact I.out.1) (by rw [← HP.out]; exact I.out.2) p1
      rw [HE.out] at Xc CUT
      obtain ⟨d1, hd1⟩ : ∃ d1, rotD d st m en = d1 := ⟨_, rfl⟩
      have D1 : Aside (d1.size = d.size) := (show _ = _ by rw [← hd1]; exact rotD_size _ _ _ _)
      rw [hd1] at Xc CUT
      have X1 : Aside (SortedIn (ltOf cfM) a st d1 ∧ SortedIn (ltOf cfM) st mid d1) := ⟨Xc.1, Xc.2.1⟩
      have X : Aside (SortedIn (ltOf cfM) mid en d1 ∧ SortedIn (ltOf cfM) en b d1 ∧ True) := ⟨Xc.2.2.1, Xc.2.2.2.1, trivial⟩
      clear Xc
      by_cases g1 : st < m
      · have t1a : decide ((st : Int) < (m : Int)) = true := decide_eq_true (by omega)
        have t1b : decide (st < m) = true := decide_eq_true (by omega)
        have t1c : ((st : Int) < (m : Int)) := by omega
        by_cases g2 : m < en
        · have t2a : decide ((m : Int) < (en : Int)) = true := decide_eq_true (by omega)
          have t2b : decide (m < en) = true := decide_eq_true (by omega)
          have t2c : ((m : Int) < (en : Int)) := by omega
          have HCC := Lib.hid (rotate_any blk off cap st m en (.func (.func 42) #[] #[]) d0 d w0 wr R HS0.out S.out g1 g2 (by omega) hsz)
          clear S
          go_wp2_with fail
          refine HCC.out.mono ?_
          rintro e w7 ⟨rfl, hS1, hP1⟩
          rw [hd1] at hS1 hP1
          have S7 : Aside _ := hS1
          have P1 : Aside (PermIn st en d d1) := hP1
          clear hS1 hP1 HCC
          have cutd := fun {d2 d3 : Array M6} => CUT.out (d2 := d2) (d3 := d3) P1.out
          clear hd1
          by_cases g3 : a < st
          · have t3a : decide ((a : Int) < (st : Int)) = true := decide_eq_true (by omega)
            have t3b : decide (a < st) = true := decide_eq_true (by omega)
            have t3c : ((a : Int) < (st : Int)) := by omega
            by_cases g4 : st < mid
            · have t4a : decide ((st : Int) < (mid : Int)) = true := decide_eq_true (by omega)
              have t4b : decide (st < mid) = true := decide_eq_true (by omega)
              have t4c : ((st : Int) < (mid : Int)) := by omega
              have HCC := Lib.hid (IH.out a st mid d1 w7 D1.out S7.out g3 g4 (by omega) (by omega) X1.out.1 X1.out.2)
              clear S7
              go_wp2_with fail
              refine HCC.out.mono ?_
              rintro e w8 ⟨rfl, d2, hS2, hP2, hT2⟩
              have S8 : Aside _ := hS2
              have D2 : Aside (d2.size = d.size) := hP2.1.trans D1.out
              have P2 : Aside (PermIn a mid d1 d2) := hP2
              have C2 : Aside (SortedIn (ltOf cfM) a mid d2 ∨ (d2 = d1 ∧ (st ≤ a ∨ mid ≤ st))) := .inl hT2
              clear hS2 hP2 hT2 HCC
              by_cases g5 : mid < en
              · have t5a : decide ((mid : Int) < (en : Int)) = true := decide_eq_true (by omega)
                have t5b : decide (mid < en) = true := decide_eq_true (by omega)
                have t5c : ((mid : Int) < (en : Int)) := by omega
                by_cases g6 : en < b
                · have t6a : decide ((en : Int) < (b : Int)) = true := decide_eq_true (by omega)
                  have t6b : decide (en < b) = true := decide_eq_true (by omega)
                  have t6c : ((en : Int) < (b : Int)) := by omega
                  have HCC := Lib.hid (IH.out mid en b d2 w8 D2.out S8.out g5 g6 h3 (by omega) (sorted_congr X.out.1 (fun i i1 i2 => P2.out.2.1 i (by omega))) (sorted_congr X.out.2.1 (fun i i1 i2 => P2.out.2.1 i (by omega))))
                  clear S8
                  go_wp2_with fail
                  refine HCC.out.mono ?_
                  rintro e w9 ⟨rfl, d3, hS3, hP3, hT3⟩
                  have S9 : Aside _ := hS3
                  have P3 : Aside _ := hP3
                  have T3 : Aside _ := hT3
                  clear hS3 hP3 hT3 HCC
                  go_wp2
                  go_end0
                  exact ⟨rfl, d3, S9.out, cutd P2.out C2.out P3.out (.inl T3.out)⟩
                · have t6a : decide ((en : Int) < (b : Int)) = false := decide_eq_false (by omega)
                  have t6b : decide (en < b) = false := decide_eq_false (by omega)
                  have t6c : ¬ ((en : Int) < (b : Int)) := by omega
                  go_wp2
                  go_end0
                  exact ⟨rfl, d2, S8.out, cutd P2.out C2.out (permIn_refl _ _ _) (.inr ⟨rfl, by omega⟩)⟩
              · have t5a : decide ((mid : Int) < (en : Int)) = false := decide_eq_false (by omega)
                have t5b : decide (mid < en) = false := decide_eq_false (by omega)
                have t5c : ¬ ((mid : Int) < (en : Int)) := by omega
                go_wp2
                go_end0
                exact ⟨rfl, d2, S8.out, cutd P2.out C2.out (permIn_refl _ _ _) (.inr ⟨rfl, by omega⟩)⟩
            · have t4a : decide ((st : Int) < (mid : Int)) = false := decide_eq_false (by omega)
              have t4b : decide (st < mid) = false := decide_eq_false (by omega)
              have t4c : ¬ ((st : Int) < (mid : Int)) := by omega
              obtain ⟨d2, hd2⟩ : ∃ d2, d2 = d1 := ⟨_, rfl⟩
              have S8 : Aside (SWK encM 6 w0 blk off d2 w7) := hd2 ▸ S7.out
              have D2 : Aside (d2.size = d.size) := hd2 ▸ D1.out
              have P2 : Aside (PermIn a mid d1 d2) := hd2 ▸ permIn_refl _ _ _
              have C2 : Aside (SortedIn (ltOf cfM) a mid d2 ∨ (d2 = d1 ∧ (st ≤ a ∨ mid ≤ st))) := .inr ⟨hd2, by omega⟩
              clear S7 hd2
              by_cases g5 : mid < en
              · have t5a : decide ((mid : Int) < (en : Int)) = true := decide_eq_true (by omega)
                have t5b : decide (mid < en) = true := decide_eq_true (by omega)
                have t5c : ((mid : Int) < (en : Int)) := by omega
                by_cases g6 : en < b
                · have t6a : decide ((en : Int) < (b : Int)) = true := decide_eq_true (by omega)
                  have t6b : decide (en < b) = true := decide_eq_true (by omega)
                  have t6c : ((en : Int) < (b : Int)) := by omega
                  have HCC := Lib.hid (IH.out mid en b d2 w7 D2.out S8.out g5 g6 h3 (by omega) (sorted_congr X.out.1 (fun i i1 i2 => P2.out.2.1 i (by omega))) (sorted_congr X.out.2.1 (fun i i1 i2 => P2.out.2.1 i (by omega))))
                  clear S8
                  go_wp2_with fail
                  refine HCC.out.mono ?_
                  rintro e w9 ⟨rfl, d3, hS3, hP3, hT3⟩
                  have S9 : Aside _ := hS3
                  have P3 : Aside _ := hP3
                  have T3 : Aside _ := hT3
                  clear hS3 hP3 hT3 HCC
                  go_wp2
                  go_end0
                  exact ⟨rfl, d3, S9.out, cutd P2.out C2.out P3.out (.inl T3.out)⟩
                · have t6a : decide ((en : Int) < (b : Int)) = false := decide_eq_false (by omega)
                  have t6b : decide (en < b) = false := decide_eq_false (by omega)
                  have t6c : ¬ ((en : Int) < (b : Int)) := by omega
                  go_wp2
                  go_end0
                  exact ⟨rfl, d2, S8.out, cutd P2.out C2.out (permIn_refl _ _ _) (.inr ⟨rfl, by omega⟩)⟩
              · have t5a : decide ((mid : Int) < (en : Int)) = false := decide_eq_false (by omega)
                have t5b : decide (mid < en) = false := decide_eq_false (by omega)
                have t5c : ¬ ((mid : Int) < (en : Int)) := by omega
                go_wp2
                go_end0
                exact ⟨rfl, d2, S8.out, cutd P2.out C2.out (permIn_refl _ _ _) (.inr ⟨rfl, by omega⟩)⟩
          · have t3a : decide ((a : Int) < (st : Int)) = false := decide_eq_false (by omega)
            have t3b : decide (a < st) = false := decide_eq_false (by omega)
            have t3c : ¬ ((a : Int) < (st : Int)) := by omega
            obtain ⟨d2, hd2⟩ : ∃ d2, d2 = d1 := ⟨_, rfl⟩
            have S8 : Aside (SWK encM 6 w0 blk off d2 w7) := hd2 ▸ S7.out
            have D2 : Aside (d2.size = d.size) := hd2 ▸ D1.out
            have P2 : Aside (PermIn a mid d1 d2) := hd2 ▸ permIn_refl _ _ _
            have C2 : Aside (SortedIn (ltOf cfM) a mid d2 ∨ (d2 = d1 ∧ (st ≤ a ∨ mid ≤ st))) := .inr ⟨hd2, by omega⟩
            clear S7 hd2
            by_cases g5 : mid < en
            · have t5a : decide ((mid : Int) < (en : Int)) = true := decide_eq_true (by omega)
              have t5b : decide (mid < en) = true := decide_eq_true (by omega)
              have t5c : ((mid : Int) < (en : Int)) := by omega
              by_cases g6 : en < b
              · have t6a : decide ((en : Int) < (b : Int)) = true := decide_eq_true (by omega)
                have t6b : decide (en < b) = true := decide_eq_true (by omega)
                have t6c : ((en : Int) < (b : Int)) := by omega
                have HCC := Lib.hid (IH.out mid en b d2 w7 D2.out S8.out g5 g6 h3 (by omega) (sorted_congr X.out.1 (fun i i1 i2 => P2.out.2.1 i (by omega))) (sorted_congr X.out.2.1 (fun i i1 i2 => P2.out.2.1 i (by omega))))
                clear S8
                go_wp2_with fail
                refine HCC.out.mono ?_
                rintro e w9 ⟨rfl, d3, hS3, hP3, hT3⟩
                have S9 : Aside _ := hS3
                have P3 : Aside _ := hP3
                have T3 : Aside _ := hT3
                clear hS3 hP3 hT3 HCC
                go_wp2
                go_end0
                exact ⟨rfl, d3, S9.out, cutd P2.out C2.out P3.out (.inl T3.out)⟩
              · have t6a : decide ((en : Int) < (b : Int)) = false := decide_eq_false (by omega)
                have t6b : decide (en < b) = false := decide_eq_false (by omega)
                have t6c : ¬ ((en : Int) < (b : Int)) := by omega
                go_wp2
                go_end0
                exact ⟨rfl, d2, S8.out, cutd P2.out C2.out (permIn_refl _ _ _) (.inr ⟨rfl, by omega⟩)⟩
            · have t5a : decide ((mid : Int) < (en : Int)) = false := decide_eq_false (by omega)
              have t5b : decide (mid < en) = false := decide_eq_false (by omega)
              have t5c : ¬ ((mid : Int) < (en : Int)) := by omega
              go_wp2
              go_end0
              exact ⟨rfl, d2, S8.out, cutd P2.out C2.out (permIn_refl _ _ _) (.inr ⟨rfl, by omega⟩)⟩
        · have t2a : decide ((m : Int) < (en : Int)) = false := decide_eq_false (by omega)
          have t2b : decide (m < en) = false := decide_eq_false (by omega)
          have t2c : ¬ ((m : Int) < (en : Int)) := by omega
          have hrn : d1 = d := by rw [← hd1]; exact rotD_nop (by omega) (by omega) (by omega)
          have S7 : Aside (SWK encM 6 w0 blk off d1 wr) := hrn ▸ S.out
          have P1 : Aside (PermIn st en d d1) := hrn ▸ permIn_refl _ _ _
          clear hrn S
          have cutd := fun {d2 d3 : Array M6} => CUT.out (d2 := d2) (d3 := d3) P1.out
          clear hd1
          by_cases g3 : a < st
          · have t3a : decide ((a : Int) < (st : Int)) = true := decide_eq_true (by omega)
            have t3b : decide (a < st) = true := decide_eq_true (by omega)
            have t3c : ((a : Int) < (st : Int)) := by omega
            by_cases g4 : st < mid
            · have t4a : decide ((st : Int) < (mid : Int)) = true := decide_eq_true (by omega)
              have t4b : decide (st < mid) = true := decide_eq_true (by omega)
              have t4c : ((st : Int) < (mid : Int)) := by omega
              have HCC := Lib.hid (IH.out a st mid d1 wr D1.out S7.out g3 g4 (by omega) (by omega) X1.out.1 X1.out.2)
              clear S7
              go_wp2_with fail
              refine HCC.out.mono ?_
              rintro e w8 ⟨rfl, d2, hS2, hP2, hT2⟩
              have S8 : Aside _ := hS2
              have D2 : Aside (d2.size = d.size) := hP2.1.trans D1.out
              have P2 : Aside (PermIn a mid d1 d2) := hP2
              have C2 : Aside (SortedIn (ltOf cfM) a mid d2 ∨ (d2 = d1 ∧ (st ≤ a ∨ mid ≤ st))) := .inl hT2
              clear hS2 hP2 hT2 HCC
              by_cases g5 : mid < en
              · have t5a : decide ((mid : Int) < (en : Int)) = true := decide_eq_true (by omega)
                have t5b : decide (mid < en) = true := decide_eq_true (by omega)
                have t5c : ((mid : Int) < (en : Int)) := by omega
                by_cases g6 : en < b
                · have t6a : decide ((en : Int) < (b : Int)) = true := decide_eq_true (by omega)
                  have t6b : decide (en < b) = true := decide_eq_true (by omega)
                  have t6c : ((en : Int) < (b : Int)) := by omega
                  have HCC := Lib.hid (IH.out mid en b d2 w8 D2.out S8.out g5 g6 h3 (by omega) (sorted_congr X.out.1 (fun i i1 i2 => P2.out.2.1 i (by omega))) (sorted_congr X.out.2.1 (fun i i1 i2 => P2.out.2.1 i (by omega))))
                  clear S8
                  go_wp2_with fail
                  refine HCC.out.mono ?_
                  rintro e w9 ⟨rfl, d3, hS3, hP3, hT3⟩
                  have S9 : Aside _ := hS3
                  have P3 : Aside _ := hP3
                  have T3 : Aside _ := hT3
                  clear hS3 hP3 hT3 HCC
                  go_wp2
                  go_end0
                  exact ⟨rfl, d3, S9.out, cutd P2.out C2.out P3.out (.inl T3.out)⟩
                · have t6a : decide ((en : Int) < (b : Int)) = false := decide_eq_false (by omega)
                  have t6b : decide (en < b) = false := decide_eq_false (by omega)
                  have t6c : ¬ ((en : Int) < (b : Int)) := by omega
                  go_wp2
                  go_end0
                  exact ⟨rfl, d2, S8.out, cutd P2.out C2.out (permIn_refl _ _ _) (.inr ⟨rfl, by omega⟩)⟩
              · have t5a : decide ((mid : Int) < (en : Int)) = false := decide_eq_false (by omega)
                have t5b : decide (mid < en) = false := decide_eq_false (by omega)
                have t5c : ¬ ((mid : Int) < (en : Int)) := by omega
                go_wp2
                go_end0
                exact ⟨rfl, d2, S8.out, cutd P2.out C2.out (permIn_refl _ _ _) (.inr ⟨rfl, by omega⟩)⟩
            · have t4a : decide ((st : Int) < (mid : Int)) = false := decide_eq_false (by omega)
              have t4b : decide (st < mid) = false := decide_eq_false (by omega)
              have t4c : ¬ ((st : Int) < (mid : Int)) := by omega
              obtain ⟨d2, hd2⟩ : ∃ d2, d2 = d1 := ⟨_, rfl⟩
              have S8 : Aside (SWK encM 6 w0 blk off d2 wr) := hd2 ▸ S7.out
              have D2 : Aside (d2.size = d.size) := hd2 ▸ D1.out
              have P2 : Aside (PermIn a mid d1 d2) := hd2 ▸ permIn_refl _ _ _
              have C2 : Aside (SortedIn (ltOf cfM) a mid d2 ∨ (d2 = d1 ∧ (st ≤ a ∨ mid ≤ st))) := .inr ⟨hd2, by omega⟩
              clear S7 hd2
              by_cases g5 : mid < en
              · have t5a : decide ((mid : Int) < (en : Int)) = true := decide_eq_true (by omega)
                have t5b : decide (mid < en) = true := decide_eq_true (by omega)
                have t5c : ((mid : Int) < (en : Int)) := by omega
                by_cases g6 : en < b
                · have t6a : decide ((en : Int) < (b : Int)) = true := decide_eq_true (by omega)
                  have t6b : decide (en < b) = true := decide_eq_true (by omega)
                  have t6c : ((en : Int) < (b : Int)) := by omega
                  have HCC := Lib.hid (IH.out mid en b d2 wr D2.out S8.out g5 g6 h3 (by omega) (sorted_congr X.out.1 (fun i i1 i2 => P2.out.2.1 i (by omega))) (sorted_congr X.out.2.1 (fun i i1 i2 => P2.out.2.1 i (by omega))))
                  clear S8
                  go_wp2_with fail
                  refine HCC.out.mono ?_
                  rintro e w9 ⟨rfl, d3, hS3, hP3, hT3⟩
                  have S9 : Aside _ := hS3
                  have P3 : Aside _ := hP3
                  have T3 : Aside _ := hT3
                  clear hS3 hP3 hT3 HCC
                  go_wp2
                  go_end0
                  exact ⟨rfl, d3, S9.out, cutd P2.out C2.out P3.out (.inl T3.out)⟩
                · have t6a : decide ((en : Int) < (b : Int)) = false := decide_eq_false (by omega)
                  have t6b : decide (en < b) = false := decide_eq_false (by omega)
                  have t6c : ¬ ((en : Int) < (b : Int)) := by omega
                  go_wp2
                  go_end0
                  exact ⟨rfl, d2, S8.out, cutd P2.out C2.out (permIn_refl _ _ _) (.inr ⟨rfl, by omega⟩)⟩
              · have t5a : decide ((mid : Int) < (en : Int)) = false := decide_eq_false (by omega)
                have t5b : decide (mid < en) = false := decide_eq_false (by omega)
                have t5c : ¬ ((mid : Int) < (en : Int)) := by omega
                go_wp2
                go_end0
                exact ⟨rfl, d2, S8.out, cutd P2.out C2.out (permIn_refl _ _ _) (.inr ⟨rfl, by omega⟩)⟩
          · have t3a : decide ((a : Int) < (st : Int)) = false := decide_eq_false (by omega)
            have t3b : decide (a < st) = false := decide_eq_false (by omega)
            have t3c : ¬ ((a : Int) < (st : Int)) := by omega
            obtain ⟨d2, hd2⟩ : ∃ d2, d2 = d1 := ⟨_, rfl⟩
            have S8 : Aside (SWK encM 6 w0 blk off d2 wr) := hd2 ▸ S7.out
            have D2 : Aside (d2.size = d.size) := hd2 ▸ D1.out
            have P2 : Aside (PermIn a mid d1 d2) := hd2 ▸ permIn_refl _ _ _
            have C2 : Aside (SortedIn (ltOf cfM) a mid d2 ∨ (d2 = d1 ∧ (st ≤ a ∨ mid ≤ st))) := .inr ⟨hd2, by omega⟩
            clear S7 hd2
            by_cases g5 : mid < en
            · have t5a : decide ((mid : Int) < (en : Int)) = true := decide_eq_true (by omega)
              have t5b : decide (mid < en) = true := decide_eq_true (by omega)
              have t5c : ((mid : Int) < (en : Int)) := by omega
              by_cases g6 : en < b
              · have t6a : decide ((en : Int) < (b : Int)) = true := decide_eq_true (by omega)
                have t6b : decide (en < b) = true := decide_eq_true (by omega)
                have t6c : ((en : Int) < (b : Int)) := by omega
                have HCC := Lib.hid (IH.out mid en b d2 wr D2.out S8.out g5 g6 h3 (by omega) (sorted_congr X.out.1 (fun i i1 i2 => P2.out.2.1 i (by omega))) (sorted_congr X.out.2.1 (fun i i1 i2 => P2.out.2.1 i (by omega))))
                clear S8
                go_wp2_with fail
                refine HCC.out.mono ?_
                rintro e w9 ⟨rfl, d3, hS3, hP3, hT3⟩
                have S9 : Aside _ := hS3
                have P3 : Aside _ := hP3
                have T3 : Aside _ := hT3
                clear hS3 hP3 hT3 HCC
                go_wp2
                go_end0
                exact ⟨rfl, d3, S9.out, cutd P2.out C2.out P3.out (.inl T3.out)⟩
              · have t6a : decide ((en : Int) < (b : Int)) = false := decide_eq_false (by omega)
                have t6b : decide (en < b) = false := decide_eq_false (by omega)
                have t6c : ¬ ((en : Int) < (b : Int)) := by omega
                go_wp2
                go_end0
                exact ⟨rfl, d2, S8.out, cutd P2.out C2.out (permIn_refl _ _ _) (.inr ⟨rfl, by omega⟩)⟩
            · have t5a : decide ((mid : Int) < (en : Int)) = false := decide_eq_false (by omega)
              have t5b : decide (mid < en) = false := decide_eq_false (by omega)
              have t5c : ¬ ((mid : Int) < (en : Int)) := by omega
              go_wp2
              go_end0
              exact ⟨rfl, d2, S8.out, cutd P2.out C2.out (permIn_refl _ _ _) (.inr ⟨rfl, by omega⟩)⟩
      · have t1a : decide ((st : Int) < (m : Int)) = false := decide_eq_false (by omega)
        have t1b : decide (st < m) = false := decide_eq_false (by omega)
        have t1c : ¬ ((st : Int) < (m : Int)) := by omega
        have hrn : d1 = d := by rw [← hd1]; exact rotD_nop (by omega) (by omega) (by omega)
        have S7 : Aside (SWK encM 6 w0 blk off d1 wr) := hrn ▸ S.out
        have P1 : Aside (PermIn st en d d1) := hrn ▸ permIn_refl _ _ _
        clear hrn S
        have cutd := fun {d2 d3 : Array M6} => CUT.out (d2 := d2) (d3 := d3) P1.out
        clear hd1
        by_cases g3 : a < st
        · have t3a : decide ((a : Int) < (st : Int)) = true := decide_eq_true (by omega)
          have t3b : decide (a < st) = true := decide_eq_true (by omega)
          have t3c : ((a : Int) < (st : Int)) := by omega
          by_cases g4 : st < mid
          · have t4a : decide ((st : Int) < (mid : Int)) = true := decide_eq_true (by omega)
            have t4b : decide (st < mid) = true := decide_eq_true (by omega)
            have t4c : ((st : Int) < (mid : Int)) := by omega
            have HCC := Lib.hid (IH.out a st mid d1 wr D1.out S7.out g3 g4 (by omega) (by omega) X1.out.1 X1.out.2)
            clear S7
            go_wp2_with fail
            refine HCC.out.mono ?_
            rintro e w8 ⟨rfl, d2, hS2, hP2, hT2⟩
            have S8 : Aside _ := hS2
            have D2 : Aside (d2.size = d.size) := hP2.1.trans D1.out
            have P2 : Aside (PermIn a mid d1 d2) := hP2
            have C2 : Aside (SortedIn (ltOf cfM) a mid d2 ∨ (d2 = d1 ∧ (st ≤ a ∨ mid ≤ st))) := .inl hT2
            clear hS2 hP2 hT2 HCC
            by_cases g5 : mid < en
            · have t5a : decide ((mid : Int) < (en : Int)) = true := decide_eq_true (by omega)
              have t5b : decide (mid < en) = true := decide_eq_true (by omega)
              have t5c : ((mid : Int) < (en : Int)) := by omega
              by_cases g6 : en < b
              · have t6a : decide ((en : Int) < (b : Int)) = true := decide_eq_true (by omega)
                have t6b : decide (en < b) = true := decide_eq_true (by omega)
                have t6c : ((en : Int) < (b : Int)) := by omega
                have HCC := Lib.hid (IH.out mid en b d2 w8 D2.out S8.out g5 g6 h3 (by omega) (sorted_congr X.out.1 (fun i i1 i2 => P2.out.2.1 i (by omega))) (sorted_congr X.out.2.1 (fun i i1 i2 => P2.out.2.1 i (by omega))))
                clear S8
                go_wp2_with fail
                refine HCC.out.mono ?_
                rintro e w9 ⟨rfl, d3, hS3, hP3, hT3⟩
                have S9 : Aside _ := hS3
                have P3 : Aside _ := hP3
                have T3 : Aside _ := hT3
                clear hS3 hP3 hT3 HCC
                go_wp2
                go_end0
                exact ⟨rfl, d3, S9.out, cutd P2.out C2.out P3.out (.inl T3.out)⟩
              · have t6a : decide ((en : Int) < (b : Int)) = false := decide_eq_false (by omega)
                have t6b : decide (en < b) = false := decide_eq_false (by omega)
                have t6c : ¬ ((en : Int) < (b : Int)) := by omega
                go_wp2
                go_end0
                exact ⟨rfl, d2, S8.out, cutd P2.out C2.out (permIn_refl _ _ _) (.inr ⟨rfl, by omega⟩)⟩
            · have t5a : decide ((mid : Int) < (en : Int)) = false := decide_eq_false (by omega)
              have t5b : decide (mid < en) = false := decide_eq_false (by omega)
              have t5c : ¬ ((mid : Int) < (en : Int)) := by omega
              go_wp2
              go_end0
              exact ⟨rfl, d2, S8.out, cutd P2.out C2.out (permIn_refl _ _ _) (.inr ⟨rfl, by omega⟩)⟩
          · have t4a : decide ((st : Int) < (mid : Int)) = false := decide_eq_false (by omega)
            have t4b : decide (st < mid) = false := decide_eq_false (by omega)
            have t4c : ¬ ((st : Int) < (mid : Int)) := by omega
            obtain ⟨d2, hd2⟩ : ∃ d2, d2 = d1 := ⟨_, rfl⟩
            have S8 : Aside (SWK encM 6 w0 blk off d2 wr) := hd2 ▸ S7.out
            have D2 : Aside (d2.size = d.size) := hd2 ▸ D1.out
            have P2 : Aside (PermIn a mid d1 d2) := hd2 ▸ permIn_refl _ _ _
            have C2 : Aside (SortedIn (ltOf cfM) a mid d2 ∨ (d2 = d1 ∧ (st ≤ a ∨ mid ≤ st))) := .inr ⟨hd2, by omega⟩
            clear S7 hd2
            by_cases g5 : mid < en
            · have t5a : decide ((mid : Int) < (en : Int)) = true := decide_eq_true (by omega)
              have t5b : decide (mid < en) = true := decide_eq_true (by omega)
              have t5c : ((mid : Int) < (en : Int)) := by omega
              by_cases g6 : en < b
              · have t6a : decide ((en : Int) < (b : Int)) = true := decide_eq_true (by omega)
                have t6b : decide (en < b) = true := decide_eq_true (by omega)
                have t6c : ((en : Int) < (b : Int)) := by omega
                have HCC := Lib.hid (IH.out mid en b d2 wr D2.out S8.out g5 g6 h3 (by omega) (sorted_congr X.out.1 (fun i i1 i2 => P2.out.2.1 i (by omega))) (sorted_congr X.out.2.1 (fun i i1 i2 => P2.out.2.1 i (by omega))))
                clear S8
                go_wp2_with fail
                refine HCC.out.mono ?_
                rintro e w9 ⟨rfl, d3, hS3, hP3, hT3⟩
                have S9 : Aside _ := hS3
                have P3 : Aside _ := hP3
                have T3 : Aside _ := hT3
                clear hS3 hP3 hT3 HCC
                go_wp2
                go_end0
                exact ⟨rfl, d3, S9.out, cutd P2.out C2.out P3.out (.inl T3.out)⟩
              · have t6a : decide ((en : Int) < (b : Int)) = false := decide_eq_false (by omega)
                have t6b : decide (en < b) = false := decide_eq_false (by omega)
                have t6c : ¬ ((en : Int) < (b : Int)) := by omega
                go_wp2
                go_end0
                exact ⟨rfl, d2, S8.out, cutd P2.out C2.out (permIn_refl _ _ _) (.inr ⟨rfl, by omega⟩)⟩
            · have t5a : decide ((mid : Int) < (en : Int)) = false := decide_eq_false (by omega)
              have t5b : decide (mid < en) = false := decide_eq_false (by omega)
              have t5c : ¬ ((mid : Int) < (en : Int)) := by omega
              go_wp2
              go_end0
              exact ⟨rfl, d2, S8.out, cutd P2.out C2.out (permIn_refl _ _ _) (.inr ⟨rfl, by omega⟩)⟩
        · have t3a : decide ((a : Int) < (st : Int)) = false := decide_eq_false (by omega)
          have t3b : decide (a < st) = false := decide_eq_false (by omega)
          have t3c : ¬ ((a : Int) < (st : Int)) := by omega
          obtain ⟨d2, hd2⟩ : ∃ d2, d2 = d1 := ⟨_, rfl⟩
          have S8 : Aside (SWK encM 6 w0 blk off d2 wr) := hd2 ▸ S7.out
          have D2 : Aside (d2.size = d.size) := hd2 ▸ D1.out
          have P2 : Aside (PermIn a mid d1 d2) := hd2 ▸ permIn_refl _ _ _
          have C2 : Aside (SortedIn (ltOf cfM) a mid d2 ∨ (d2 = d1 ∧ (st ≤ a ∨ mid ≤ st))) := .inr ⟨hd2, by omega⟩
          clear S7 hd2
          by_cases g5 : mid < en
          · have t5a : decide ((mid : Int) < (en : Int)) = true := decide_eq_true (by omega)
            have t5b : decide (mid < en) = true := decide_eq_true (by omega)
            have t5c : ((mid : Int) < (en : Int)) := by omega
            by_cases g6 : en < b
            · have t6a : decide ((en : Int) < (b : Int)) = true := decide_eq_true (by omega)
              have t6b : decide (en < b) = true := decide_eq_true (by omega)
              have t6c : ((en : Int) < (b : Int)) := by omega
              have HCC := Lib.hid (IH.out mid en b d2 wr D2.out S8.out g5 g6 h3 (by omega) (sorted_congr X.out.1 (fun i i1 i2 => P2.out.2.1 i (by omega))) (sorted_congr X.out.2.1 (fun i i1 i2 => P2.out.2.1 i (by omega))))
              clear S8
              go_wp2_with fail
              refine HCC.out.mono ?_
              rintro e w9 ⟨rfl, d3, hS3, hP3, hT3⟩
              have S9 : Aside _ := hS3
              have P3 : Aside _ := hP3
              have T3 : Aside _ := hT3
              clear hS3 hP3 hT3 HCC
              go_wp2
              go_end0
              exact ⟨rfl, d3, S9.out, cutd P2.out C2.out P3.out (.inl T3.out)⟩
            · have t6a : decide ((en : Int) < (b : Int)) = false := decide_eq_false (by omega)
              have t6b : decide (en < b) = false := decide_eq_false (by omega)
              have t6c : ¬ ((en : Int) < (b : Int)) := by omega
              go_wp2
              go_end0
              exact ⟨rfl, d2, S8.out, cutd P2.out C2.out (permIn_refl _ _ _) (.inr ⟨rfl, by omega⟩)⟩
          · have t5a : decide ((mid : Int) < (en : Int)) = false := decide_eq_false (by omega)
            have t5b : decide (mid < en) = false := decide_eq_false (by omega)
            have t5c : ¬ ((mid : Int) < (en : Int)) := by omega
            go_wp2
            go_end0
            exact ⟨rfl, d2, S8.out, cutd P2.out C2.out (permIn_refl _ _ _) (.inr ⟨rfl, by omega⟩)⟩
end Go.Proofs.Ytbepnjgbkfidiaa.Tr
/- Contract of symMerge: the right part is the longer one. Written by tools/genTrS4.py. -/
namespace Go.Proofs.Ytbepnjgbkfidiaa.Tr
open Go.Proofs Go.RowKit Go.Sort Go.Shelf Go.Lib
open Go.Proofs.Ytbepnjgbkfidiaa.Utf

set_option maxRecDepth 1000000 in
set_option maxHeartbeats 16000000 in
/-- THE RIGHT PART IS THE LONGER ONE -/
theorem symMerge_c2 (blk off cap a m b : Nat) (d0 d : Array M6) (w0 w : World) (R : RowK encM 6 w0 blk off d0) (hs : d.size = d0.size) (S : SWK encM 6 w0 blk off d w) (h1 : a < m) (h2 : m < b) (h3 : b ≤ d.size) (hsz : d.size < 4611686018427387904)
    (s1 : SortedIn (ltOf cfM) a m d) (s2 : SortedIn (ltOf cfM) m b d) (hna : a + 1 < m) (hnb : m + 1 < b) (mid : Nat) (hmid : mid = (a + b) / 2) (hc : m ≤ mid) (IH : ∀ (a' m' b' : Nat) (d' : Array M6) (w' : World), d'.size = d.size → SWK encM 6 w0 blk off d' w' → a' < m' → m' < b' → b' ≤ d.size → b' - a' < b - a → SortedIn (ltOf cfM) a' m' d' → SortedIn (ltOf cfM) m' b' d' →
      Calls Try.prog 59 #[.slice (some ⟨blk, off, none⟩) d.size cap, .int .i64 a', .int .i64 m', .int .i64 b', .func (.func 42) #[] #[]] w' fun e w'' => e = .returned (.tuple #[]) ∧ ∃ d'', SWK encM 6 w0 blk off d'' w'' ∧ PermIn a' b' d' d'' ∧ SortedIn (ltOf cfM) a' b' d'') :
    Calls Try.prog 59 #[.slice (some ⟨blk, off, none⟩) d.size cap, .int .i64 a, .int .i64 m, .int .i64 b, .func (.func 42) #[] #[]] w fun e w' => e = .returned (.tuple #[]) ∧ ∃ d', SWK encM 6 w0 blk off d' w' ∧ PermIn a b d d' ∧ SortedIn (ltOf cfM) a b d' := by
  have mixed := mixedOrd
  have HS0 : Aside (d.size = d0.size) := hs
  have S0 : Aside (SWK encM 6 w0 blk off d w) := S
  have Q1 : Aside _ := s1
  have Q2 : Aside _ := s2
  have e58 : ∀ args w, (callFunc 42 args).run Try.prog w = .ok (.enter 42 args) w := enters_of Try.func42 (by kernel_rfl) rfl
  clear S hs s1 s2
  have JH : Aside _ := IH
  clear IH
  have IH := JH
  clear JH
  have u1 : (((m : Int) - (a : Int)) == 1) = false := by rw [beq_eq_false_iff_ne]; omega
  have u1b : ¬ (m : Int) - (a : Int) = 1 := by omega
  have u1c : (((b : Int) - (m : Int)) == 1) = false := by rw [beq_eq_false_iff_ne]; omega
  have u1d : ¬ (b : Int) - (m : Int) = 1 := by omega
  have wmid : ((a : Int) + (b : Int)) / 2 = (mid : Int) := by omega
  have m1 : 2 * mid ≤ a + b := by omega
  have m2 : a + b ≤ 2 * mid + 1 := by omega
  have HMID : Aside (mid = (a + b) / 2) := hmid
  clear hmid
  obtain ⟨n, hn⟩ : ∃ n, n = mid + m := ⟨_, rfl⟩
  have wn : IntKind.i64.wrap ((mid : Int) + (m : Int)) = (n : Int) := by rw [IntKind.wrap_i64]; omega
  have wn2 : (mid : Int) + (m : Int) = (n : Int) := by omega
  have n1 : n ≤ mid + m := by omega
  have n2 : mid + m ≤ n := by omega
  have HN : Aside (n = mid + m) := hn
  clear hn
  obtain ⟨p, hp⟩ : ∃ p, n = p + 1 := ⟨n - 1, by omega⟩
  have wp : IntKind.i64.wrap ((n : Int) - 1) = (p : Int) := by rw [IntKind.wrap_i64]; omega
  have wp2 : (n : Int) - 1 = (p : Int) := by omega
  have p1 : n ≤ p + 1 := by omega
  have p2 : p + 1 ≤ n := by omega
  have HP : Aside (p = mid + m - 1) := (show _ = _ by have := HN.out; omega)
  clear hp
  have u2a : decide ((mid : Int) < (m : Int)) = false := decide_eq_false (by omega)
  have u2b : decide (mid < m) = false := decide_eq_false (by omega)
  have u2c : ¬ ((mid : Int) < (m : Int)) := by omega
  go_enter Try.func59, Try.ntmps59
  go_wp2_with fail
  go_loopw [20, 21] (fun si sj wr => ∃ i j : Nat, si = .int .i64 i ∧ sj = .int .i64 j ∧ a ≤ i ∧ i ≤ j ∧ j ≤ m ∧ Aside (SWK encM 6 w0 blk off d wr) ∧ Aside ((∀ c, a ≤ c → c < i → ltOf cfM d[p - c]! d[c]! = false) ∧ (∀ c, j ≤ c → c < m → ltOf cfM d[p - c]! d[c]! = true))) (fun si sj _ => (intOf sj).toNat - (intOf si).toNat)
  case atStart => exact ⟨a, m, rfl, rfl, by omega, by omega, by omega, S0, (show _ ∧ _ from ⟨fun x g1 g2 => by omega, fun x g1 g2 => by omega⟩)⟩
  case round =>
    clear S0
    obtain ⟨i, j, rfl, rfl, hai, hij, hjm, S, I⟩ := hrel
    by_cases hlt : i < j
    · have t2 : decide ((i : Int) < (j : Int)) = true := decide_eq_true (by omega)
      have t3 : decide (i < j) = true := decide_eq_true hlt
      obtain ⟨c, hhc⟩ : ∃ z, z = (i + j) / 2 := ⟨_, rfl⟩
      have wc : ((i : Int) + (j : Int)) / 2 = (c : Int) := by omega
      have loc : i ≤ c := by omega
      have upc : c < j := by omega
      clear hhc
      obtain ⟨q, hq⟩ : ∃ q, q + c = p := ⟨p - c, by omega⟩
      have wq : IntKind.i64.wrap ((p : Int) - (c : Int)) = (q : Int) := by rw [IntKind.wrap_i64]; omega
      have wq2 : (p : Int) - (c : Int) = (q : Int) := by omega
      have wq3 : IntKind.i64.wrap (q : Int) = (q : Int) := by rw [IntKind.wrap_i64]; omega
      have q1 : q + c ≤ p := by omega
      have q2 : p ≤ q + c := by omega
      have HQ : Aside (p - c = q) := (show _ = _ by omega)
      clear hq
      have qm : m ≤ q := by omega
      have qb : q < b := by omega
      have cm : c < m := by omega
      have pic : (0 : Int) ≤ (c : Int) := by omega
      have bic : (c : Int) < (d.size : Int) := by omega
      have eic : ((c : Int)).toNat = c := by omega
      have piq : (0 : Int) ≤ (q : Int) := by omega
      have biq : (q : Int) < (d.size : Int) := by omega
      have eiq : ((q : Int)).toNat = q := by omega
      cases hG : ltOf cfM d[q]! d[c]! with
      | true =>
        have HG : Aside _ := hG
        obtain ⟨x8, hx8⟩ : ∃ x, x = d[q]! := ⟨_, rfl⟩
        obtain ⟨y8, hy8⟩ : ∃ x, x = d[c]! := ⟨_, rfl⟩
        have kx8 := cells6g S.out R HS0.out q (by omega)
        have ky8 := cells6g S.out R HS0.out c (by omega)
        have hc8 := SWK.cmp (P := Try.prog) S.out (byName_lays blk off d0.size w0) HS0.out x8 y8
        rw [← hx8] at kx8
        rw [← hy8] at ky8
        have hv8 : cfM x8 y8 < 0 := by rw [hx8, hy8]; exact of_decide_eq_true hG
        have hd8 : decide (cfM x8 y8 < 0) = true := decide_eq_true hv8
        clear hx8 hy8
        generalize cfM x8 y8 = r8 at hc8 hv8 hd8
        obtain ⟨xx8, xk8, xn8, xs8, xA8, xl8, xc8, xB8, xm8, xd8⟩ := x8
        obtain ⟨yx8, yk8, yn8, ys8, yA8, yl8, yc8, yB8, ym8, yd8⟩ := y8
        simp only [encM] at hc8
        simp only [C6g] at kx8 ky8
        generalize strOf xx8 = X8 at *
        generalize strOf yx8 = Y8 at *
        obtain ⟨a08, a18, a28, a38, a48, a58⟩ := kx8
        obtain ⟨b08, b18, b28, b38, b48, b58⟩ := ky8
        clear hG
        go_wp2_with fail
        go_quiet_grown (first | (go_at_fn 42; refine Calls.grown_of (hc8 _ _)))
        have S2 : Aside (SWK encM 6 w0 blk off d (grow (wr.drewN nq) osq)) := S.out.grown nq osq
        clear a08 a18 a28 a38 a48 a58 b08 b18 b28 b38 b48 b58 hc8 S
        generalize grow (wr.drewN nq) osq = w2 at S2 ⊢
        clear nq osq
        go_wp2
        go_roundw
        case rel =>
          refine ⟨i, c, rfl, rfl, hai, by omega, by omega, S2, ?_⟩
          refine (show _ ∧ _ from ⟨I.out.1, fun x g1 g2 => ?_⟩)
          have k1 := sorted_le ltM_swo Q1.out (show a ≤ c by omega) g1 (by omega)
          have k2 := sorted_le ltM_swo Q2.out (show m ≤ p - x by omega) (show p - x ≤ q by omega) (by omega)
          cases hq : ltOf cfM d[p - x]! d[x]! with
          | true => rfl
          | false => have := ltM_swo.ntrans _ _ _ k2 (ltM_swo.ntrans _ _ _ hq k1); rw [HG.out] at this; cases this
        case measure => simp [intOf]; omega
      | false =>
        have HG : Aside _ := hG
        obtain ⟨x8, hx8⟩ : ∃ x, x = d[q]! := ⟨_, rfl⟩
        obtain ⟨y8, hy8⟩ : ∃ x, x = d[c]! := ⟨_, rfl⟩
        have kx8 := cells6g S.out R HS0.out q (by omega)
        have ky8 := cells6g S.out R HS0.out c (by omega)
        have hc8 := SWK.cmp (P := Try.prog) S.out (byName_lays blk off d0.size w0) HS0.out x8 y8
        rw [← hx8] at kx8
        rw [← hy8] at ky8
        have hv8 : ¬ cfM x8 y8 < 0 := by rw [hx8, hy8]; exact of_decide_eq_false hG
        have hd8 : decide (cfM x8 y8 < 0) = false := decide_eq_false hv8
        clear hx8 hy8
        generalize cfM x8 y8 = r8 at hc8 hv8 hd8
        obtain ⟨xx8, xk8, xn8, xs8, xA8, xl8, xc8, xB8, xm8, xd8⟩ := x8
        obtain ⟨yx8, yk8, yn8, ys8, yA8, yl8, yc8, yB8, ym8, yd8⟩ := y8
        simp only [encM] at hc8
        simp only [C6g] at kx8 ky8
        generalize strOf xx8 = X8 at *
        generalize strOf yx8 = Y8 at *
        obtain ⟨a08, a18, a28, a38, a48, a58⟩ := kx8
        obtain ⟨b08, b18, b28, b38, b48, b58⟩ := ky8
        clear hG
        go_wp2_with fail
        go_quiet_grown (first | (go_at_fn 42; refine Calls.grown_of (hc8 _ _)))
        have S2 : Aside (SWK encM 6 w0 blk off d (grow (wr.drewN nq) osq)) := S.out.grown nq osq
        clear a08 a18 a28 a38 a48 a58 b08 b18 b28 b38 b48 b58 hc8 S
        generalize grow (wr.drewN nq) osq = w2 at S2 ⊢
        clear nq osq
        go_wp2
        go_roundw
        case rel =>
          refine ⟨c + 1, j, by go_num, rfl, by omega, by omega, hjm, S2, ?_⟩
          refine (show _ ∧ _ from ⟨fun x g1 g2 => ?_, I.out.2⟩)
          have k1 := sorted_le ltM_swo Q1.out (show a ≤ x by omega) (show x ≤ c by omega) (by omega)
          have k2 := sorted_le ltM_swo Q2.out (show m ≤ q by omega) (show q ≤ p - x by omega) (by omega)
          exact ltM_swo.ntrans _ _ _ k2 (ltM_swo.ntrans _ _ _ HG.out k1)
        case measure => simp [intOf]; omega
    · obtain ⟨st, hst⟩ : ∃ st, st = i := ⟨_, rfl⟩
      have hji : j = i := by omega
      subst hji
      subst hst
      have t2 : decide ((st : Int) < (st : Int)) = false := decide_eq_false (by omega)
      have t3 : decide (st < st) = false := decide_eq_false (by omega)
      clear hlt
      obtain ⟨en, hen⟩ : ∃ en, en + st = n := ⟨n - st, by omega⟩
      have we : IntKind.i64.wrap ((n : Int) - (st : Int)) = (en : Int) := by rw [IntKind.wrap_i64]; omega
      have we2 : (n : Int) - (st : Int) = (en : Int) := by omega
      have e1 : en + st ≤ n := by omega
      have e2 : n ≤ en + st := by omega
      have HE : Aside (mid + m - st = en) := (show _ = _ by have := HN.out; omega)
      clear hen
      have hmen : m ≤ en := by omega
      have henb : en ≤ b := by omega
      have hast : a ≤ st := by omega
      have hstm : st ≤ mid := by omega
      have hmen2 : mid ≤ en := by omega
      have Xc := cut_turned ltM_swo HMID.out h1 h2 h3 Q1.out Q2.out (.inl ⟨hc, rfl, rfl⟩) hai hjm (by rw [← HP.out]; exact I.out.1) (by rw [← HP.out]; exact I.out.2)
      have CUT : Aside _ := fun {d2 d3 : Array M6} p1 => cut_done (d2 := d2) (d3 := d3) ltM_swo HMID.out h1 h2 h3 Q1.out Q2.out (.inl ⟨hc, rfl, rfl⟩) hai hjm (by rw [← HP.out]; exact I.out.1) (by rw [← HP.out]; exact I.out.2) p1
      rw [HE.out] at Xc CUT
      obtain ⟨d1, hd1⟩ : ∃ d1, rotD d st m en = d1 := ⟨_, rfl⟩
      have D1 : Aside (d1.size = d.size) := (show _ = _ by rw [← hd1]; exact rotD_size _ _ _ _)
      rw [hd1] at Xc CUT
      have X1 : Aside (SortedIn (ltOf cfM) a st d1 ∧ SortedIn (ltOf cfM) st mid d1) := ⟨Xc.1, Xc.2.1⟩
      have X : Aside (SortedIn (ltOf cfM) mid en d1 ∧ SortedIn (ltOf cfM) en b d1 ∧ True) := ⟨Xc.2.2.1, Xc.2.2.2.1, trivial⟩
      clear Xc
      by_cases g1 : st < m
      · have t1a : decide ((st : Int) < (m : Int)) = true := decide_eq_true (by omega)
        have t1b : decide (st < m) = true := decide_eq_true (by omega)
        have t1c : ((st : Int) < (m : Int)) := by omega
        by_cases g2 : m < en
        · have t2a : decide ((m : Int) < (en : Int)) = true := decide_eq_true (by omega)
          have t2b : decide (m < en) = true := decide_eq_true (by omega)
          have t2c : ((m : Int) < (en : Int)) := by omega
          have HCC := Lib.hid (rotate_any blk off cap st m en (.func (.func 42) #[] #[]) d0 d w0 wr R HS0.out S.out g1 g2 (by omega) hsz)
          clear S
          go_wp2_with fail
          refine HCC.out.mono ?_
          rintro e w7 ⟨rfl, hS1, hP1⟩
          rw [hd1] at hS1 hP1
          have S7 : Aside _ := hS1
          have P1 : Aside (PermIn st en d d1) := hP1
          clear hS1 hP1 HCC
          have cutd := fun {d2 d3 : Array M6} => CUT.out (d2 := d2) (d3 := d3) P1.out
          clear hd1
          by_cases g3 : a < st
          · have t3a : decide ((a : Int) < (st : Int)) = true := decide_eq_true (by omega)
            have t3b : decide (a < st) = true := decide_eq_true (by omega)
            have t3c : ((a : Int) < (st : Int)) := by omega
            by_cases g4 : st < mid
            · have t4a : decide ((st : Int) < (mid : Int)) = true := decide_eq_true (by omega)
              have t4b : decide (st < mid) = true := decide_eq_true (by omega)
              have t4c : ((st : Int) < (mid : Int)) := by omega
              have HCC := Lib.hid (IH.out a st mid d1 w7 D1.out S7.out g3 g4 (by omega) (by omega) X1.out.1 X1.out.2)
              clear S7
              go_wp2_with fail
              refine HCC.out.mono ?_
              rintro e w8 ⟨rfl, d2, hS2, hP2, hT2⟩
              have S8 : Aside _ := hS2
              have D2 : Aside (d2.size = d.size) := hP2.1.trans D1.out
              have P2 : Aside (PermIn a mid d1 d2) := hP2
              have C2 : Aside (SortedIn (ltOf cfM) a mid d2 ∨ (d2 = d1 ∧ (st ≤ a ∨ mid ≤ st))) := .inl hT2
              clear hS2 hP2 hT2 HCC
              by_cases g5 : mid < en
              · have t5a : decide ((mid : Int) < (en : Int)) = true := decide_eq_true (by omega)
                have t5b : decide (mid < en) = true := decide_eq_true (by omega)
                have t5c : ((mid : Int) < (en : Int)) := by omega
                by_cases g6 : en < b
                · have t6a : decide ((en : Int) < (b : Int)) = true := decide_eq_true (by omega)
                  have t6b : decide (en < b) = true := decide_eq_true (by omega)
                  have t6c : ((en : Int) < (b : Int)) := by omega
                  have HCC := Lib.hid (IH.out mid en b d2 w8 D2.out S8.out g5 g6 h3 (by omega) (sorted_congr X.out.1 (fun i i1 i2 => P2.out.2.1 i (by omega))) (sorted_congr X.out.2.1 (fun i i1 i2 => P2.out.2.1 i (by omega))))
                  clear S8
                  go_wp2_with fail
                  refine HCC.out.mono ?_
                  rintro e w9 ⟨rfl, d3, hS3, hP3, hT3⟩
                  have S9 : Aside _ := hS3
                  have P3 : Aside _ := hP3
                  have T3 : Aside _ := hT3
                  clear hS3 hP3 hT3 HCC
                  go_wp2
                  go_end0
                  exact ⟨rfl, d3, S9.out, cutd P2.out C2.out P3.out (.inl T3.out)⟩
                · have t6a : decide ((en : Int) < (b : Int)) = false := decide_eq_false (by omega)
                  have t6b : decide (en < b) = false := decide_eq_false (by omega)
                  have t6c : ¬ ((en : Int) < (b : Int)) := by omega
                  go_wp2
                  go_end0
                  exact ⟨rfl, d2, S8.out, cutd P2.out C2.out (permIn_refl _ _ _) (.inr ⟨rfl, by omega⟩)⟩
              · have t5a : decide ((mid : Int) < (en : Int)) = false := decide_eq_false (by omega)
                have t5b : decide (mid < en) = false := decide_eq_false (by omega)
                have t5c : ¬ ((mid : Int) < (en : Int)) := by omega
                go_wp2
                go_end0
                exact ⟨rfl, d2, S8.out, cutd P2.out C2.out (permIn_refl _ _ _) (.inr ⟨rfl, by omega⟩)⟩
            · have t4a : decide ((st : Int) < (mid : Int)) = false := decide_eq_false (by omega)
              have t4b : decide (st < mid) = false := decide_eq_false (by omega)
              have t4c : ¬ ((st : Int) < (mid : Int)) := by omega
              obtain ⟨d2, hd2⟩ : ∃ d2, d2 = d1 := ⟨_, rfl⟩
              have S8 : Aside (SWK encM 6 w0 blk off d2 w7) := hd2 ▸ S7.out
              have D2 : Aside (d2.size = d.size) := hd2 ▸ D1.out
              have P2 : Aside (PermIn a mid d1 d2) := hd2 ▸ permIn_refl _ _ _
              have C2 : Aside (SortedIn (ltOf cfM) a mid d2 ∨ (d2 = d1 ∧ (st ≤ a ∨ mid ≤ st))) := .inr ⟨hd2, by omega⟩
              clear S7 hd2
              by_cases g5 : mid < en
              · have t5a : decide ((mid : Int) < (en : Int)) = true := decide_eq_true (by omega)
                have t5b : decide (mid < en) = true := decide_eq_true (by omega)
                have t5c : ((mid : Int) < (en : Int)) := by omega
                by_cases g6 : en < b
                · have t6a : decide ((en : Int) < (b : Int)) = true := decide_eq_true (by omega)
                  have t6b : decide (en < b) = true := decide_eq_true (by omega)
                  have t6c : ((en : Int) < (b : Int)) := by omega
                  have HCC := Lib.hid (IH.out mid en b d2 w7 D2.out S8.out g5 g6 h3 (by omega) (sorted_congr X.out.1 (fun i i1 i2 => P2.out.2.1 i (by omega))) (sorted_congr X.out.2.1 (fun i i1 i2 => P2.out.2.1 i (by omega))))
                  clear S8
                  go_wp2_with fail
                  refine HCC.out.mono ?_
                  rintro e w9 ⟨rfl, d3, hS3, hP3, hT3⟩
                  have S9 : Aside _ := hS3
                  have P3 : Aside _ := hP3
                  have T3 : Aside _ := hT3
                  clear hS3 hP3 hT3 HCC
                  go_wp2
                  go_end0
                  exact ⟨rfl, d3, S9.out, cutd P2.out C2.out P3.out (.inl T3.out)⟩
                · have t6a : decide ((en : Int) < (b : Int)) = false := decide_eq_false (by omega)
                  have t6b : decide (en < b) = false := decide_eq_false (by omega)
                  have t6c : ¬ ((en : Int) < (b : Int)) := by omega
                  go_wp2
                  go_end0
                  exact ⟨rfl, d2, S8.out, cutd P2.out C2.out (permIn_refl _ _ _) (.inr ⟨rfl, by omega⟩)⟩
              · have t5a : decide ((mid : Int) < (en : Int)) = false := decide_eq_false (by omega)
                have t5b : decide (mid < en) = false := decide_eq_false (by omega)
                have t5c : ¬ ((mid : Int) < (en : Int)) := by omega
                go_wp2
                go_end0
                exact ⟨rfl, d2, S8.out, cutd P2.out C2.out (permIn_refl _ _ _) (.inr ⟨rfl, by omega⟩)⟩
          · have t3a : decide ((a : Int) < (st : Int)) = false := decide_eq_false (by omega)
            have t3b : decide (a < st) = false := decide_eq_false (by omega)
            have t3c : ¬ ((a : Int) < (st : Int)) := by omega
            obtain ⟨d2, hd2⟩ : ∃ d2, d2 = d1 := ⟨_, rfl⟩
            have S8 : Aside (SWK encM 6 w0 blk off d2 w7) := hd2 ▸ S7.out
            have D2 : Aside (d2.size = d.size) := hd2 ▸ D1.out
            have P2 : Aside (PermIn a mid d1 d2) := hd2 ▸ permIn_refl _ _ _
            have C2 : Aside (SortedIn (ltOf cfM) a mid d2 ∨ (d2 = d1 ∧ (st ≤ a ∨ mid ≤ st))) := .inr ⟨hd2, by omega⟩
            clear S7 hd2
            by_cases g5 : mid < en
            · have t5a : decide ((mid : Int) < (en : Int)) = true := decide_eq_true (by omega)
              have t5b : decide (mid < en) = true := decide_eq_true (by omega)
              have t5c : ((mid : Int) < (en : Int)) := by omega
              by_cases g6 : en < b
              · have t6a : decide ((en : Int) < (b : Int)) = true := decide_eq_true (by omega)
                have t6b : decide (en < b) = true := decide_eq_true (by omega)
                have t6c : ((en : Int) < (b : Int)) := by omega
                have HCC := Lib.hid (IH.out mid en b d2 w7 D2.out S8.out g5 g6 h3 (by omega) (sorted_congr X.out.1 (fun i i1 i2 => P2.out.2.1 i (by omega))) (sorted_congr X.out.2.1 (fun i i1 i2 => P2.out.2.1 i (by omega))))
                clear S8
                go_wp2_with fail
                refine HCC.out.mono ?_
                rintro e w9 ⟨rfl, d3, hS3, hP3, hT3⟩
                have S9 : Aside _ := hS3
                have P3 : Aside _ := hP3
                have T3 : Aside _ := hT3
                clear hS3 hP3 hT3 HCC
                go_wp2
                go_end0
                exact ⟨rfl, d3, S9.out, cutd P2.out C2.out P3.out (.inl T3.out)⟩
              · have t6a : decide ((en : Int) < (b : Int)) = false := decide_eq_false (by omega)
                have t6b : decide (en < b) = false := decide_eq_false (by omega)
                have t6c : ¬ ((en : Int) < (b : Int)) := by omega
                go_wp2
                go_end0
                exact ⟨rfl, d2, S8.out, cutd P2.out C2.out (permIn_refl _ _ _) (.inr ⟨rfl, by omega⟩)⟩
            · have t5a : decide ((mid : Int) < (en : Int)) = false := decide_eq_false (by omega)
              have t5b : decide (mid < en) = false := decide_eq_false (by omega)
              have t5c : ¬ ((mid : Int) < (en : Int)) := by omega
              go_wp2
              go_end0
              exact ⟨rfl, d2, S8.out, cutd P2.out C2.out (permIn_refl _ _ _) (.inr ⟨rfl, by omega⟩)⟩
        · have t2a : decide ((m : Int) < (en : Int)) = false := decide_eq_false (by omega)
          have t2b : decide (m < en) = false := decide_eq_false (by omega)
          have t2c : ¬ ((m : Int) < (en : Int)) := by omega
          have hrn : d1 = d := by rw [← hd1]; exact rotD_nop (by omega) (by omega) (by omega)
          have S7 : Aside (SWK encM 6 w0 blk off d1 wr) := hrn ▸ S.out
          have P1 : Aside (PermIn st en d d1) := hrn ▸ permIn_refl _ _ _
          clear hrn S
          have cutd := fun {d2 d3 : Array M6} => CUT.out (d2 := d2) (d3 := d3) P1.out
          clear hd1
          by_cases g3 : a < st
          · have t3a : decide ((a : Int) < (st : Int)) = true := decide_eq_true (by omega)
            have t3b : decide (a < st) = true := decide_eq_true (by omega)
            have t3c : ((a : Int) < (st : Int)) := by omega
            by_cases g4 : st < mid
            · have t4a : decide ((st : Int) < (mid : Int)) = true := decide_eq_true (by omega)
              have t4b : decide (st < mid) = true := decide_eq_true (by omega)
              have t4c : ((st : Int) < (mid : Int)) := by omega
              have HCC := Lib.hid (IH.out a st mid d1 wr D1.out S7.out g3 g4 (by omega) (by omega) X1.out.1 X1.out.2)
              clear S7
              go_wp2_with fail
              refine HCC.out.mono ?_
              rintro e w8 ⟨rfl, d2, hS2, hP2, hT2⟩
              have S8 : Aside _ := hS2
              have D2 : Aside (d2.size = d.size) := hP2.1.trans D1.out
              have P2 : Aside (PermIn a mid d1 d2) := hP2
              have C2 : Aside (SortedIn (ltOf cfM) a mid d2 ∨ (d2 = d1 ∧ (st ≤ a ∨ mid ≤ st))) := .inl hT2
              clear hS2 hP2 hT2 HCC
              by_cases g5 : mid < en
              · have t5a : decide ((mid : Int) < (en : Int)) = true := decide_eq_true (by omega)
                have t5b : decide (mid < en) = true := decide_eq_true (by omega)
                have t5c : ((mid : Int) < (en : Int)) := by omega
                by_cases g6 : en < b
                · have t6a : decide ((en : Int) < (b : Int)) = true := decide_eq_true (by omega)
                  have t6b : decide (en < b) = true := decide_eq_true (by omega)
                  have t6c : ((en : Int) < (b : Int)) := by omega
                  have HCC := Lib.hid (IH.out mid en b d2 w8 D2.out S8.out g5 g6 h3 (by omega) (sorted_congr X.out.1 (fun i i1 i2 => P2.out.2.1 i (by omega))) (sorted_congr X.out.2.1 (fun i i1 i2 => P2.out.2.1 i (by omega))))
                  clear S8
                  go_wp2_with fail
                  refine HCC.out.mono ?_
                  rintro e w9 ⟨rfl, d3, hS3, hP3, hT3⟩
                  have S9 : Aside _ := hS3
                  have P3 : Aside _ := hP3
                  have T3 : Aside _ := hT3
                  clear hS3 hP3 hT3 HCC
                  go_wp2
                  go_end0
                  exact ⟨rfl, d3, S9.out, cutd P2.out C2.out P3.out (.inl T3.out)⟩
                · have t6a : decide ((en : Int) < (b : Int)) = false := decide_eq_false (by omega)
                  have t6b : decide (en < b) = false := decide_eq_false (by omega)
                  have t6c : ¬ ((en : Int) < (b : Int)) := by omega
                  go_wp2
                  go_end0
                  exact ⟨rfl, d2, S8.out, cutd P2.out C2.out (permIn_refl _ _ _) (.inr ⟨rfl, by omega⟩)⟩
              · have t5a : decide ((mid : Int) < (en : Int)) = false := decide_eq_false (by omega)
                have t5b : decide (mid < en) = false := decide_eq_false (by omega)
                have t5c : ¬ ((mid : Int) < (en : Int)) := by omega
                go_wp2
                go_end0
                exact ⟨rfl, d2, S8.out, cutd P2.out C2.out (permIn_refl _ _ _) (.inr ⟨rfl, by omega⟩)⟩
            · have t4a : decide ((st : Int) < (mid : Int)) = false := decide_eq_false (by omega)
              have t4b : decide (st < mid) = false := decide_eq_false (by omega)
              have t4c : ¬ ((st : Int) < (mid : Int)) := by omega
              obtain ⟨d2, hd2⟩ : ∃ d2, d2 = d1 := ⟨_, rfl⟩
              have S8 : Aside (SWK encM 6 w0 blk off d2 wr) := hd2 ▸ S7.out
              have D2 : Aside (d2.size = d.size) := hd2 ▸ D1.out
              have P2 : Aside (PermIn a mid d1 d2) := hd2 ▸ permIn_refl _ _ _
              have C2 : Aside (SortedIn (ltOf cfM) a mid d2 ∨ (d2 = d1 ∧ (st ≤ a ∨ mid ≤ st))) := .inr ⟨hd2, by omega⟩
              clear S7 hd2
              by_cases g5 : mid < en
              · have t5a : decide ((mid : Int) < (en : Int)) = true := decide_eq_true (by omega)
                have t5b : decide (mid < en) = true := decide_eq_true (by omega)
                have t5c : ((mid : Int) < (en : Int)) := by omega
                by_cases g6 : en < b
                · have t6a : decide ((en : Int) < (b : Int)) = true := decide_eq_true (by omega)
                  have t6b : decide (en < b) = true := decide_eq_true (by omega)
                  have t6c : ((en : Int) < (b : Int)) := by omega
                  have HCC := Lib.hid (IH.out mid en b d2 wr D2.out S8.out g5 g6 h3 (by omega) (sorted_congr X.out.1 (fun i i1 i2 => P2.out.2.1 i (by omega))) (sorted_congr X.out.2.1 (fun i i1 i2 => P2.out.2.1 i (by omega))))
                  clear S8
                  go_wp2_with fail
                  refine HCC.out.mono ?_
                  rintro e w9 ⟨rfl, d3, hS3, hP3, hT3⟩
                  have S9 : Aside _ := hS3
                  have P3 : Aside _ := hP3
                  have T3 : Aside _ := hT3
                  clear hS3 hP3 hT3 HCC
                  go_wp2
                  go_end0
                  exact ⟨rfl, d3, S9.out, cutd P2.out C2.out P3.out (.inl T3.out)⟩
                · have t6a : decide ((en : Int) < (b : Int)) = false := decide_eq_false (by omega)
                  have t6b : decide (en < b) = false := decide_eq_false (by omega)
                  have t6c : ¬ ((en : Int) < (b : Int)) := by omega
                  go_wp2
                  go_end0
                  exact ⟨rfl, d2, S8.out, cutd P2.out C2.out (permIn_refl _ _ _) (.inr ⟨rfl, by omega⟩)⟩
              · have t5a : decide ((mid : Int) < (en : Int)) = false := decide_eq_false (by omega)
                have t5b : decide (mid < en) = false := decide_eq_false (by omega)
                have t5c : ¬ ((mid : Int) < (en : Int)) := by omega
                go_wp2
                go_end0
                exact ⟨rfl, d2, S8.out, cutd P2.out C2.out (permIn_refl _ _ _) (.inr ⟨rfl, by omega⟩)⟩
          · have t3a : decide ((a : Int) < (st : Int)) = false := decide_eq_false (by omega)
            have t3b : decide (a < st) = false := decide_eq_false (by omega)
            have t3c : ¬ ((a : Int) < (st : Int)) := by omega
            obtain ⟨d2, hd2⟩ : ∃ d2, d2 = d1 := ⟨_, rfl⟩
            have S8 : Aside (SWK encM 6 w0 blk off d2 wr) := hd2 ▸ S7.out
            have D2 : Aside (d2.size = d.size) := hd2 ▸ D1.out
            have P2 : Aside (PermIn a mid d1 d2) := hd2 ▸ permIn_refl _ _ _
            have C2 : Aside (SortedIn (ltOf cfM) a mid d2 ∨ (d2 = d1 ∧ (st ≤ a ∨ mid ≤ st))) := .inr ⟨hd2, by omega⟩
            clear S7 hd2
            by_cases g5 : mid < en
            · have t5a : decide ((mid : Int) < (en : Int)) = true := decide_eq_true (by omega)
              have t5b : decide (mid < en) = true := decide_eq_true (by omega)
              have t5c : ((mid : Int) < (en : Int)) := by omega
              by_cases g6 : en < b
              · have t6a : decide ((en : Int) < (b : Int)) = true := decide_eq_true (by omega)
                have t6b : decide (en < b) = true := decide_eq_true (by omega)
                have t6c : ((en : Int) < (b : Int)) := by omega
                have HCC := Lib.hid (IH.out mid en b d2 wr D2.out S8.out g5 g6 h3 (by omega) (sorted_congr X.out.1 (fun i i1 i2 => P2.out.2.1 i (by omega))) (sorted_congr X.out.2.1 (fun i i1 i2 => P2.out.2.1 i (by omega))))
                clear S8
                go_wp2_with fail
                refine HCC.out.mono ?_
                rintro e w9 ⟨rfl, d3, hS3, hP3, hT3⟩
                have S9 : Aside _ := hS3
                have P3 : Aside _ := hP3
                have T3 : Aside _ := hT3
                clear hS3 hP3 hT3 HCC
                go_wp2
                go_end0
                exact ⟨rfl, d3, S9.out, cutd P2.out C2.out P3.out (.inl T3.out)⟩
              · have t6a : decide ((en : Int) < (b : Int)) = false := decide_eq_false (by omega)
                have t6b : decide (en < b) = false := decide_eq_false (by omega)
                have t6c : ¬ ((en : Int) < (b : Int)) := by omega
                go_wp2
                go_end0
                exact ⟨rfl, d2, S8.out, cutd P2.out C2.out (permIn_refl _ _ _) (.inr ⟨rfl, by omega⟩)⟩
            · have t5a : decide ((mid : Int) < (en : Int)) = false := decide_eq_false (by omega)
              have t5b : decide (mid < en) = false := decide_eq_false (by omega)
              have t5c : ¬ ((mid : Int) < (en : Int)) := by omega
              go_wp2
              go_end0
              exact ⟨rfl, d2, S8.out, cutd P2.out C2.out (permIn_refl _ _ _) (.inr ⟨rfl, by omega⟩)⟩
      · have t1a : decide ((st : Int) < (m : Int)) = false := decide_eq_false (by omega)
        have t1b : decide (st < m) = false := decide_eq_false (by omega)
        have t1c : ¬ ((st : Int) < (m : Int)) := by omega
        have hrn : d1 = d := by rw [← hd1]; exact rotD_nop (by omega) (by omega) (by omega)
        have S7 : Aside (SWK encM 6 w0 blk off d1 wr) := hrn ▸ S.out
        have P1 : Aside (PermIn st en d d1) := hrn ▸ permIn_refl _ _ _
        clear hrn S
        have cutd := fun {d2 d3 : Array M6} => CUT.out (d2 := d2) (d3 := d3) P1.out
        clear hd1
        by_cases g3 : a < st
        · have t3a : decide ((a : Int) < (st : Int)) = true := decide_eq_true (by omega)
          have t3b : decide (a < st) = true := decide_eq_true (by omega)
          have t3c : ((a : Int) < (st : Int)) := by omega
          by_cases g4 : st < mid
          · have t4a : decide ((st : Int) < (mid : Int)) = true := decide_eq_true (by omega)
            have t4b : decide (st < mid) = true := decide_eq_true (by omega)
            have t4c : ((st : Int) < (mid : Int)) := by omega
            have HCC := Lib.hid (IH.out a st mid d1 wr D1.out S7.out g3 g4 (by omega) (by omega) X1.out.1 X1.out.2)
            clear S7
            go_wp2_with fail
            refine HCC.out.mono ?_
            rintro e w8 ⟨rfl, d2, hS2, hP2, hT2⟩
            have S8 : Aside _ := hS2
            have D2 : Aside (d2.size = d.size) := hP2.1.trans D1.out
            have P2 : Aside (PermIn a mid d1 d2) := hP2
            have C2 : Aside (SortedIn (ltOf cfM) a mid d2 ∨ (d2 = d1 ∧ (st ≤ a ∨ mid ≤ st))) := .inl hT2
            clear hS2 hP2 hT2 HCC
            by_cases g5 : mid < en
            · have t5a : decide ((mid : Int) < (en : Int)) = true := decide_eq_true (by omega)
              have t5b : decide (mid < en) = true := decide_eq_true (by omega)
              have t5c : ((mid : Int) < (en : Int)) := by omega
              by_cases g6 : en < b
              · have t6a : decide ((en : Int) < (b : Int)) = true := decide_eq_true (by omega)
                have t6b : decide (en < b) = true := decide_eq_true (by omega)
                have t6c : ((en : Int) < (b : Int)) := by omega
                have HCC := Lib.hid (IH.out mid en b d2 w8 D2.out S8.out g5 g6 h3 (by omega) (sorted_congr X.out.1 (fun i i1 i2 => P2.out.2.1 i (by omega))) (sorted_congr X.out.2.1 (fun i i1 i2 => P2.out.2.1 i (by omega))))
                clear S8
                go_wp2_with fail
                refine HCC.out.mono ?_
                rintro e w9 ⟨rfl, d3, hS3, hP3, hT3⟩
                have S9 : Aside _ := hS3
                have P3 : Aside _ := hP3
                have T3 : Aside _ := hT3
                clear hS3 hP3 hT3 HCC
                go_wp2
                go_end0
                exact ⟨rfl, d3, S9.out, cutd P2.out C2.out P3.out (.inl T3.out)⟩
              · have t6a : decide ((en : Int) < (b : Int)) = false := decide_eq_false (by omega)
                have t6b : decide (en < b) = false := decide_eq_false (by omega)
                have t6c : ¬ ((en : Int) < (b : Int)) := by omega
                go_wp2
                go_end0
                exact ⟨rfl, d2, S8.out, cutd P2.out C2.out (permIn_refl _ _ _) (.inr ⟨rfl, by omega⟩)⟩
            · have t5a : decide ((mid : Int) < (en : Int)) = false := decide_eq_false (by omega)
              have t5b : decide (mid < en) = false := decide_eq_false (by omega)
              have t5c : ¬ ((mid : Int) < (en : Int)) := by omega
              go_wp2
              go_end0
              exact ⟨rfl, d2, S8.out, cutd P2.out C2.out (permIn_refl _ _ _) (.inr ⟨rfl, by omega⟩)⟩
          · have t4a : decide ((st : Int) < (mid : Int)) = false := decide_eq_false (by omega)
            have t4b : decide (st < mid) = false := decide_eq_false (by omega)
            have t4c : ¬ ((st : Int) < (mid : Int)) := by omega
            obtain ⟨d2, hd2⟩ : ∃ d2, d2 = d1 := ⟨_, rfl⟩
            have S8 : Aside (SWK encM 6 w0 blk off d2 wr) := hd2 ▸ S7.out
            have D2 : Aside (d2.size = d.size) := hd2 ▸ D1.out
            have P2 : Aside (PermIn a mid d1 d2) := hd2 ▸ permIn_refl _ _ _
            have C2 : Aside (SortedIn (ltOf cfM) a mid d2 ∨ (d2 = d1 ∧ (st ≤ a ∨ mid ≤ st))) := .inr ⟨hd2, by omega⟩
            clear S7 hd2
            by_cases g5 : mid < en
            · have t5a : decide ((mid : Int) < (en : Int)) = true := decide_eq_true (by omega)
              have t5b : decide (mid < en) = true := decide_eq_true (by omega)
              have t5c : ((mid : Int) < (en : Int)) := by omega
              by_cases g6 : en < b
              · have t6a : decide ((en : Int) < (b : Int)) = true := decide_eq_true (by omega)
                have t6b : decide (en < b) = true := decide_eq_true (by omega)
                have t6c : ((en : Int) < (b : Int)) := by omega
                have HCC := Lib.hid (IH.out mid en b d2 wr D2.out S8.out g5 g6 h3 (by omega) (sorted_congr X.out.1 (fun i i1 i2 => P2.out.2.1 i (by omega))) (sorted_congr X.out.2.1 (fun i i1 i2 => P2.out.2.1 i (by omega))))
                clear S8
                go_wp2_with fail
                refine HCC.out.mono ?_
                rintro e w9 ⟨rfl, d3, hS3, hP3, hT3⟩
                have S9 : Aside _ := hS3
                have P3 : Aside _ := hP3
                have T3 : Aside _ := hT3
                clear hS3 hP3 hT3 HCC
                go_wp2
                go_end0
                exact ⟨rfl, d3, S9.out, cutd P2.out C2.out P3.out (.inl T3.out)⟩
              · have t6a : decide ((en : Int) < (b : Int)) = false := decide_eq_false (by omega)
                have t6b : decide (en < b) = false := decide_eq_false (by omega)
                have t6c : ¬ ((en : Int) < (b : Int)) := by omega
                go_wp2
                go_end0
                exact ⟨rfl, d2, S8.out, cutd P2.out C2.out (permIn_refl _ _ _) (.inr ⟨rfl, by omega⟩)⟩
            · have t5a : decide ((mid : Int) < (en : Int)) = false := decide_eq_false (by omega)
              have t5b : decide (mid < en) = false := decide_eq_false (by omega)
              have t5c : ¬ ((mid : Int) < (en : Int)) := by omega
              go_wp2
              go_end0
              exact ⟨rfl, d2, S8.out, cutd P2.out C2.out (permIn_refl _ _ _) (.inr ⟨rfl, by omega⟩)⟩
        · have t3a : decide ((a : Int) < (st : Int)) = false := decide_eq_false (by omega)
          have t3b : decide (a < st) = false := decide_eq_false (by omega)
          have t3c : ¬ ((a : Int) < (st : Int)) := by omega
          obtain ⟨d2, hd2⟩ : ∃ d2, d2 = d1 := ⟨_, rfl⟩
          have S8 : Aside (SWK encM 6 w0 blk off d2 wr) := hd2 ▸ S7.out
          have D2 : Aside (d2.size = d.size) := hd2 ▸ D1.out
          have P2 : Aside (PermIn a mid d1 d2) := hd2 ▸ permIn_refl _ _ _
          have C2 : Aside (SortedIn (ltOf cfM) a mid d2 ∨ (d2 = d1 ∧ (st ≤ a ∨ mid ≤ st))) := .inr ⟨hd2, by omega⟩
          clear S7 hd2
          by_cases g5 : mid < en
          · have t5a : decide ((mid : Int) < (en : Int)) = true := decide_eq_true (by omega)
            have t5b : decide (mid < en) = true := decide_eq_true (by omega)
            have t5c : ((mid : Int) < (en : Int)) := by omega
            by_cases g6 : en < b
            · have t6a : decide ((en : Int) < (b : Int)) = true := decide_eq_true (by omega)
              have t6b : decide (en < b) = true := decide_eq_true (by omega)
              have t6c : ((en : Int) < (b : Int)) := by omega
              have HCC := Lib.hid (IH.out mid en b d2 wr D2.out S8.out g5 g6 h3 (by omega) (sorted_congr X.out.1 (fun i i1 i2 => P2.out.2.1 i (by omega))) (sorted_congr X.out.2.1 (fun i i1 i2 => P2.out.2.1 i (by omega))))
              clear S8
              go_wp2_with fail
              refine HCC.out.mono ?_
              rintro e w9 ⟨rfl, d3, hS3, hP3, hT3⟩
              have S9 : Aside _ := hS3
              have P3 : Aside _ := hP3
              have T3 : Aside _ := hT3
              clear hS3 hP3 hT3 HCC
              go_wp2
              go_end0
              exact ⟨rfl, d3, S9.out, cutd P2.out C2.out P3.out (.inl T3.out)⟩
            · have t6a : decide ((en : Int) < (b : Int)) = false := decide_eq_false (by omega)
              have t6b : decide (en < b) = false := decide_eq_false (by omega)
              have t6c : ¬ ((en : Int) < (b : Int)) := by omega
              go_wp2
              go_end0
              exact ⟨rfl, d2, S8.out, cutd P2.out C2.out (permIn_refl _ _ _) (.inr ⟨rfl, by omega⟩)⟩
          · have t5a : decide ((mid : Int) < (en : Int)) = false := decide_eq_false (by omega)
            have t5b : decide (mid < en) = false := decide_eq_false (by omega)
            have t5c : ¬ ((mid : Int) < (en : Int)) := by omega
            go_wp2
            go_end0
            exact ⟨rfl, d2, S8.out, cutd P2.out C2.out (permIn_refl _ _ _) (.inr ⟨rfl, by omega⟩)⟩
end Go.Proofs.Ytbepnjgbkfidiaa.Tr
/- Contract of symMerge: one element on the right. Written by tools/genTrS4.py. -/
namespace Go.Proofs.Ytbepnjgbkfidiaa.Tr
open Go.Proofs Go.RowKit Go.Sort Go.Shelf Go.Lib
open Go.Proofs.Ytbepnjgbkfidiaa.Utf

set_option maxRecDepth 1000000 in
set_option maxHeartbeats 16000000 in
/-- ONE ELEMENT ON THE RIGHT -/
theorem symMerge_b (blk off cap a m b : Nat) (d0 d : Array M6) (w0 w : World) (R : RowK encM 6 w0 blk off d0) (hs : d.size = d0.size) (S : SWK encM 6 w0 blk off d w) (_h1 : a < m) (_h2 : m < b) (h3 : b ≤ d.size) (hsz : d.size < 4611686018427387904)
    (s1 : SortedIn (ltOf cfM) a m d) (s2 : SortedIn (ltOf cfM) m b d) (hm : b = m + 1) (hna : a + 1 < m) :
    Calls Try.prog 59 #[.slice (some ⟨blk, off, none⟩) d.size cap, .int .i64 a, .int .i64 m, .int .i64 b, .func (.func 42) #[] #[]] w fun e w' => e = .returned (.tuple #[]) ∧ ∃ d', SWK encM 6 w0 blk off d' w' ∧ PermIn a b d d' ∧ SortedIn (ltOf cfM) a b d' := by
  have mixed := mixedOrd
  have HS0 : Aside (d.size = d0.size) := hs
  have S0 : Aside (SWK encM 6 w0 blk off d w) := S
  have Q1 : Aside _ := s1
  have Q2 : Aside _ := s2
  have e58 : ∀ args w, (callFunc 42 args).run Try.prog w = .ok (.enter 42 args) w := enters_of Try.func42 (by kernel_rfl) rfl
  clear S hs s1 s2
  have t1 : (((m : Int) - (a : Int)) == 1) = false := by rw [beq_eq_false_iff_ne]; omega
  have t1b : ¬ (m : Int) - (a : Int) = 1 := by omega
  have t1c : (((b : Int) - (m : Int)) == 1) = true := by rw [beq_iff_eq]; omega
  have t1d : (b : Int) - (m : Int) = 1 := by omega
  have HM : Aside (b = m + 1) := hm
  have hmb : m + 1 ≤ b := by omega
  have hmb2 : b ≤ m + 1 := by omega
  clear hm
  go_enter Try.func59, Try.ntmps59
  go_wp2_with fail
  go_loopw [14, 15] (fun si sj wr => ∃ i j : Nat, si = .int .i64 i ∧ sj = .int .i64 j ∧ a ≤ i ∧ i ≤ j ∧ j ≤ m ∧ Aside (SWK encM 6 w0 blk off d wr) ∧ Aside ((∀ x, a ≤ x → x < i → ltOf cfM d[m]! d[x]! = false) ∧ (∀ x, j ≤ x → x < m → ltOf cfM d[m]! d[x]! = true))) (fun si sj _ => (intOf sj).toNat - (intOf si).toNat)
  case atStart => exact ⟨a, m, rfl, rfl, by omega, by omega, by omega, S0, (show _ ∧ _ from ⟨fun x g1 g2 => by omega, fun x g1 g2 => by omega⟩)⟩
  case round =>
    clear S0
    obtain ⟨i, j, rfl, rfl, hai, hij, hjm, S, I⟩ := hrel
    by_cases hlt : i < j
    · have t2 : decide ((i : Int) < (j : Int)) = true := decide_eq_true (by omega)
      have t3 : decide (i < j) = true := decide_eq_true hlt
      obtain ⟨h, hhh⟩ : ∃ z, z = (i + j) / 2 := ⟨_, rfl⟩
      have wh : ((i : Int) + (j : Int)) / 2 = (h : Int) := by omega
      have loh : i ≤ h := by omega
      have uph : h < j := by omega
      clear hhh
      have pih : (0 : Int) ≤ (h : Int) := by omega
      have bih : (h : Int) < (d.size : Int) := by omega
      have eih : ((h : Int)).toNat = h := by omega
      have pim : (0 : Int) ≤ (m : Int) := by omega
      have bim : (m : Int) < (d.size : Int) := by omega
      have eim : ((m : Int)).toNat = m := by omega
      have ha : h < m := by omega
      cases hG : ltOf cfM d[m]! d[h]! with
      | true =>
        have HG : Aside _ := hG
        obtain ⟨x8, hx8⟩ : ∃ x, x = d[m]! := ⟨_, rfl⟩
        obtain ⟨y8, hy8⟩ : ∃ x, x = d[h]! := ⟨_, rfl⟩
        have kx8 := cells6g S.out R HS0.out m (by omega)
        have ky8 := cells6g S.out R HS0.out h (by omega)
        have hc8 := SWK.cmp (P := Try.prog) S.out (byName_lays blk off d0.size w0) HS0.out x8 y8
        rw [← hx8] at kx8
        rw [← hy8] at ky8
        have hv8 : cfM x8 y8 < 0 := by rw [hx8, hy8]; exact of_decide_eq_true hG
        have hd8 : decide (cfM x8 y8 < 0) = true := decide_eq_true hv8
        clear hx8 hy8
        generalize cfM x8 y8 = r8 at hc8 hv8 hd8
        obtain ⟨xx8, xk8, xn8, xs8, xA8, xl8, xc8, xB8, xm8, xd8⟩ := x8
        obtain ⟨yx8, yk8, yn8, ys8, yA8, yl8, yc8, yB8, ym8, yd8⟩ := y8
        simp only [encM] at hc8
        simp only [C6g] at kx8 ky8
        generalize strOf xx8 = X8 at *
        generalize strOf yx8 = Y8 at *
        obtain ⟨a08, a18, a28, a38, a48, a58⟩ := kx8
        obtain ⟨b08, b18, b28, b38, b48, b58⟩ := ky8
        clear hG
        go_wp2_with fail
        go_quiet_grown (first | (go_at_fn 42; refine Calls.grown_of (hc8 _ _)))
        have S2 : Aside (SWK encM 6 w0 blk off d (grow (wr.drewN nq) osq)) := S.out.grown nq osq
        clear a08 a18 a28 a38 a48 a58 b08 b18 b28 b38 b48 b58 hc8 S
        generalize grow (wr.drewN nq) osq = w2 at S2 ⊢
        clear nq osq
        go_wp2
        go_roundw
        case rel =>
          refine ⟨i, h, rfl, rfl, hai, by omega, by omega, S2, ?_⟩
          refine (show _ ∧ _ from ⟨I.out.1, fun x g1 g2 => ?_⟩)
          have k := sorted_le ltM_swo Q1.out (show a ≤ h by omega) g1 g2
          cases hq : ltOf cfM d[m]! d[x]! with
          | true => rfl
          | false => have := ltM_swo.ntrans _ _ _ hq k; rw [HG.out] at this; cases this
        case measure => simp [intOf]; omega
      | false =>
        have HG : Aside _ := hG
        obtain ⟨x8, hx8⟩ : ∃ x, x = d[m]! := ⟨_, rfl⟩
        obtain ⟨y8, hy8⟩ : ∃ x, x = d[h]! := ⟨_, rfl⟩
        have kx8 := cells6g S.out R HS0.out m (by omega)
        have ky8 := cells6g S.out R HS0.out h (by omega)
        have hc8 := SWK.cmp (P := Try.prog) S.out (byName_lays blk off d0.size w0) HS0.out x8 y8
        rw [← hx8] at kx8
        rw [← hy8] at ky8
        have hv8 : ¬ cfM x8 y8 < 0 := by rw [hx8, hy8]; exact of_decide_eq_false hG
        have hd8 : decide (cfM x8 y8 < 0) = false := decide_eq_false hv8
        clear hx8 hy8
        generalize cfM x8 y8 = r8 at hc8 hv8 hd8
        obtain ⟨xx8, xk8, xn8, xs8, xA8, xl8, xc8, xB8, xm8, xd8⟩ := x8
        obtain ⟨yx8, yk8, yn8, ys8, yA8, yl8, yc8, yB8, ym8, yd8⟩ := y8
        simp only [encM] at hc8
        simp only [C6g] at kx8 ky8
        generalize strOf xx8 = X8 at *
        generalize strOf yx8 = Y8 at *
        obtain ⟨a08, a18, a28, a38, a48, a58⟩ := kx8
        obtain ⟨b08, b18, b28, b38, b48, b58⟩ := ky8
        clear hG
        go_wp2_with fail
        go_quiet_grown (first | (go_at_fn 42; refine Calls.grown_of (hc8 _ _)))
        have S2 : Aside (SWK encM 6 w0 blk off d (grow (wr.drewN nq) osq)) := S.out.grown nq osq
        clear a08 a18 a28 a38 a48 a58 b08 b18 b28 b38 b48 b58 hc8 S
        generalize grow (wr.drewN nq) osq = w2 at S2 ⊢
        clear nq osq
        go_wp2
        go_roundw
        case rel =>
          refine ⟨h + 1, j, by go_num, rfl, by omega, by omega, hjm, S2, ?_⟩
          refine (show _ ∧ _ from ⟨fun x g1 g2 => ?_, I.out.2⟩)
          have k := sorted_le ltM_swo Q1.out g1 (show x ≤ h by omega) (by omega)
          exact ltM_swo.ntrans _ _ _ HG.out k
        case measure => simp [intOf]; omega
    · obtain rfl : j = i := by omega
      have t2 : decide ((j : Int) < (j : Int)) = false := decide_eq_false (by omega)
      have t3 : decide (j < j) = false := decide_eq_false (by omega)
      have S1 : Aside _ := S
      clear S
      go_wp2_with fail
      go_loopw [17] (fun sk wr2 => ∃ (k : Nat) (dk : Array M6), sk = .int .i64 k ∧ j ≤ k ∧ k ≤ m ∧ dk.size = d.size ∧ Aside (dk = rotD d k m (m + 1)) ∧ Aside (PermIn a b d dk) ∧ Aside (SWK encM 6 w0 blk off dk wr2)) (fun sk _ => (intOf sk).toNat)
      case atStart => exact ⟨m, d, rfl, by omega, by omega, rfl, rotD_last.symm, permIn_refl d a b, S1⟩
      case round =>
        clear S1
        obtain ⟨k, dk, rfl, hjk, hkm, hdk, E, Pm, S⟩ := hrel
        by_cases hlt2 : j < k
        · obtain ⟨c, hc⟩ : ∃ c, k = c + 1 := ⟨k - 1, by omega⟩
          have wc : IntKind.i64.wrap ((k : Int) - 1) = (c : Int) := by rw [IntKind.wrap_i64]; omega
          have wc2 : (k : Int) - 1 = (c : Int) := by omega
          have t4 : decide ((j : Int) < (k : Int)) = true := decide_eq_true (by omega)
          have t5 : decide (j < k) = true := decide_eq_true hlt2
          have t4b : (j : Int) < (k : Int) := by omega
          have hckl : c < k := by omega
          have hcj : j ≤ c := by omega
          have EC : Aside (k = c + 1) := hc
          clear hc
          have pic : (0 : Int) ≤ (c : Int) := by omega
          have bic : (c : Int) < (d.size : Int) := by omega
          have eic : ((c : Int)).toNat = c := by omega
          have pik : (0 : Int) ≤ (k : Int) := by omega
          have bik : (k : Int) < (d.size : Int) := by omega
          have eik : ((k : Int)).toNat = k := by omega
          obtain ⟨x9, hx9⟩ : ∃ x, x = dk[k]! := ⟨_, rfl⟩
          obtain ⟨y9, hy9⟩ : ∃ x, x = dk[c]! := ⟨_, rfl⟩
          have SS9 := swp6 S.out R k c (by omega) (by omega)
          have kx9 := cells6 S.out R (by have := HS0.out; omega) k (by omega)
          have ky9 := cells6 S.out R (by have := HS0.out; omega) c (by omega)
          rw [← hx9] at kx9 SS9
          rw [← hy9] at ky9 SS9
          clear hx9 hy9
          obtain ⟨xx9, xk9, xn9, xs9, xA9, xl9, xc9, xB9, xm9, xd9⟩ := x9
          obtain ⟨yx9, yk9, yn9, ys9, yA9, yl9, yc9, yB9, ym9, yd9⟩ := y9
          obtain ⟨w2, hw9⟩ : ∃ w2, w2 = (put6 (put6 wr blk (off + k * 6) ⟨yx9, yk9, yn9, ys9, yA9, yl9, yc9, yB9, ym9, yd9⟩) blk (off + c * 6) ⟨xx9, xk9, xn9, xs9, xA9, xl9, xc9, xB9, xm9, xd9⟩).drew := ⟨_, rfl⟩
          rw [← hw9] at SS9
          simp only [C6, put6] at kx9 ky9 hw9
          generalize strOf xx9 = X9 at *
          generalize strOf yx9 = Y9 at *
          obtain ⟨⟨a09, a19, a29, a39, a49, a59⟩, ⟨f09, f19, f29, f39, f49, f59⟩⟩ := kx9
          obtain ⟨⟨b09, b19, b29, b39, b49, b59⟩, ⟨g09, g19, g29, g39, g49, g59⟩⟩ := ky9
          have S2 : Aside _ := SS9
          have HW9 := Lib.hid hw9
          clear SS9 S hw9
          have hij9 : k ≠ c := by omega
          have HDK : Aside (dk.size = d.size) := hdk
          clear hdk
          go_wp2_with fail
          go_big_region
          rw [← HW9.out]
          clear a09 a19 a29 a39 a49 a59 b09 b19 b29 b39 b49 b59 f09 f19 f29 f39 f49 f59 g09 g19 g29 g39 g49 g59 HW9
          go_wp2
          go_roundw
          case rel =>
            have hdk := HDK.out
            refine ⟨c, swp dk k c, by go_num, by omega, by omega, by rw [size_swp]; exact hdk, (show _ = _ by rw [E.out, EC.out]; exact rotD_down (by have := EC.out; omega) (by omega)), (show PermIn _ _ _ _ from permIn_trans _ _ _ _ _ Pm.out (swp_permIn dk a b k c (by omega) (by omega) (by omega) (by omega) (by omega))), S2⟩
          case measure => simp [intOf]; omega
        · have t4 : decide ((j : Int) < (k : Int)) = false := decide_eq_false (by omega)
          have t5 : decide (j < k) = false := decide_eq_false hlt2
          have t4b : ¬ (j : Int) < (k : Int) := by omega
          have hkj2 : k = j := by omega
          have HKJ : Aside (k = j) := hkj2
          clear hkj2
          go_wp2
          (try simp only [Exit.inBlock, Exit.then]); refine bodyPost_ret (results_none rfl _ _ _) rfl ?_
          refine ⟨rfl, dk, S.out, Pm.out, ?_⟩
          rw [E.out, HKJ.out, HM.out]
          exact sorted_down ltM_swo (by omega) (by omega) (by omega) Q1.out I.out.1 I.out.2
end Go.Proofs.Ytbepnjgbkfidiaa.Tr
/- The library's insertion sort: its contract at the program's members. -/
namespace Go.Proofs.Ytbepnjgbkfidiaa.Tr
open Go.Proofs Go.RowKit Go.Sort Go.Shelf Go.Lib
open Go.Proofs.Ytbepnjgbkfidiaa.Utf

def insRen : Ren where
  f := fun _ => 58
  t := fun k => if k = 3 then 3 else if k = 4 then 4 else if k = 22 then 23 else if k = 24 then 50 else if k = 25 then 66 else 0
  g := fun k => k
set_option maxRecDepth 100000 in
theorem insLays : SlLaysF0.n20 Try.prog insRen where
  mixed := mixedOrd
  f20 := ⟨Try.f58.name, by kernel_rfl, Try.func58.trans (congrArg some (by kernel_rfl))⟩
  t0 := by kernel_rfl
  a0 := fun _ => by kernel_rfl
  z0 := fun _ => by kernel_rfl
  v0 := fun _ => by kernel_rfl
  t3 := by kernel_rfl
  a3 := fun _ => by kernel_rfl
  z3 := fun _ => by kernel_rfl
  v3 := fun _ => by kernel_rfl
  t4 := by kernel_rfl
  a4 := fun _ => by kernel_rfl
  z4 := fun _ => by kernel_rfl
  v4 := fun _ => by kernel_rfl
  t22 := by kernel_rfl
  a22 := fun _ => by kernel_rfl
  z22 := fun _ => by kernel_rfl
  v22 := fun _ => by kernel_rfl
  t25 := by kernel_rfl
  a25 := fun _ => by kernel_rfl
  z25 := fun _ => by kernel_rfl
  v25 := fun _ => by kernel_rfl
theorem isAggM (w : World) : (isAgg 50).run Try.prog w = .ok true w := by kernel_rfl
theorem sizeOfM (w : World) : (Go.sizeOf 50).run Try.prog w = .ok 6 w := by kernel_rfl
theorem ins_any (blk off cap a b : Nat) (d0 d : Array M6) (w0 w : World) (R : RowK encM 6 w0 blk off d0) (hs : d.size = d0.size) (S : SWK encM 6 w0 blk off d w) (hab : a ≤ b) (hb : b ≤ d0.size) (hsz : d0.size < 4611686018427387904) :
    Calls Try.prog 58 #[.slice (some ⟨blk, off, none⟩) d0.size cap, .int .i64 a, .int .i64 b, .func (.func 42) #[] #[]] w fun e w' =>
      e = .returned (.tuple #[]) ∧ ∃ d', SWK encM 6 w0 blk off d' w' ∧ PermIn a b d d' ∧ SortedIn (ltOf cfM) a b d' := by
  have h := AnyQ.insertionSortCmpFunc insLays 6 isAggM sizeOfM encM encM_len encM_one cfM 42 #[] blk off cap a b d w (enters_of Try.func42 (by kernel_rfl) rfl) (byName_lays blk off d.size w) (S.holds R.hblk R.hH hs) (S.lt R.hblk) hab (by omega) (by omega)
  change Calls Try.prog 58 _ _ _ at h
  rw [hs] at h
  refine h.mono ?_
  rintro e w' ⟨rfl, n, os, rfl⟩
  have hh := insertionSort_holds ltM_swo d a b hab (by omega)
  exact ⟨rfl, _, S.on R.hblk n _ os hh.1.1, hh.1, hh.2⟩

theorem symMerge_any (blk off cap : Nat) (d0 : Array M6) (w0 : World) (R : RowK encM 6 w0 blk off d0) (hsz : d0.size < 4611686018427387904) : ∀ (N a m b : Nat) (d : Array M6) (w : World), b - a < N → d.size = d0.size → SWK encM 6 w0 blk off d w → a < m → m < b → b ≤ d0.size →
    SortedIn (ltOf cfM) a m d → SortedIn (ltOf cfM) m b d → Calls Try.prog 59 #[.slice (some ⟨blk, off, none⟩) d0.size cap, .int .i64 a, .int .i64 m, .int .i64 b, .func (.func 42) #[] #[]] w fun e w' => e = .returned (.tuple #[]) ∧ ∃ d', SWK encM 6 w0 blk off d' w' ∧ PermIn a b d d' ∧ SortedIn (ltOf cfM) a b d' := by
  intro N
  induction N with
  | zero => intro a m b d w h; omega
  | succ N ih =>
    intro a m b d w hN hs S h1 h2 h3 s1 s2
    have hsz' : d.size < 4611686018427387904 := by omega
    rw [← hs]
    by_cases c1 : m = a + 1
    · exact symMerge_a blk off cap a m b d0 d w0 w R hs S h1 h2 (by omega) hsz' s1 s2 c1
    by_cases c2 : b = m + 1
    · exact symMerge_b blk off cap a m b d0 d w0 w R hs S h1 h2 (by omega) hsz' s1 s2 c2 (by omega)
    have IH : ∀ (a' m' b' : Nat) (d' : Array M6) (w' : World), d'.size = d.size → SWK encM 6 w0 blk off d' w' → a' < m' → m' < b' → b' ≤ d.size → b' - a' < b - a → SortedIn (ltOf cfM) a' m' d' → SortedIn (ltOf cfM) m' b' d' →
      Calls Try.prog 59 #[.slice (some ⟨blk, off, none⟩) d.size cap, .int .i64 a', .int .i64 m', .int .i64 b', .func (.func 42) #[] #[]] w' fun e w'' => e = .returned (.tuple #[]) ∧ ∃ d'', SWK encM 6 w0 blk off d'' w'' ∧ PermIn a' b' d' d'' ∧ SortedIn (ltOf cfM) a' b' d'' := by
      intro a' m' b' d' w' hd' S' k1 k2 k3 k4 k5 k6
      rw [hs]
      exact ih a' m' b' d' w' (by omega) (by omega) S' k1 k2 (by omega) k5 k6
    by_cases c3 : (a + b) / 2 < m
    · exact symMerge_c1 blk off cap a m b d0 d w0 w R hs S h1 h2 (by omega) hsz' s1 s2 (by omega) (by omega) _ rfl c3 IH
    · exact symMerge_c2 blk off cap a m b d0 d w0 w R hs S h1 h2 (by omega) hsz' s1 s2 (by omega) (by omega) _ rfl (by omega) IH
end Go.Proofs.Ytbepnjgbkfidiaa.Tr
/- Contract of the stable sort. -/
namespace Go.Proofs.Ytbepnjgbkfidiaa.Tr
open Go.Proofs Go.RowKit Go.Sort Go.Shelf Go.Lib
open Go.Proofs.Ytbepnjgbkfidiaa.Utf

section
variable {lt : M6 → M6 → Bool}
/-- from s on, blocks of B are sorted -/
def FromB (lt : M6 → M6 → Bool) (B s n : Nat) (d : Array M6) : Prop := ∀ k, SortedIn lt (s + k * B) (min (s + k * B + B) n) d
/-- up to a, blocks of C are sorted -/
def DoneB (lt : M6 → M6 → Bool) (C a : Nat) (d : Array M6) : Prop := ∀ k, k * C + C ≤ a → SortedIn lt (k * C) (k * C + C) d
theorem done_zero (C : Nat) (hC : 0 < C) (d : Array M6) : DoneB lt C 0 d := fun k h => by omega
theorem mul_lt {q k C : Nat} (h : q < k) : q * C + C ≤ k * C := by
  have := Nat.mul_le_mul_right C (show q + 1 ≤ k by omega)
  rwa [Nat.succ_mul] at this
theorem done_congr {C a : Nat} {d d' : Array M6} (h : DoneB lt C a d) (he : ∀ i, i < a → d'[i]! = d[i]!) : DoneB lt C a d' := fun k hk =>
  sorted_congr (h k hk) fun i _ i2 => he i (by omega)
theorem done_step {C a : Nat} {d d' : Array M6} (hq : ∃ q, a = q * C) (h : DoneB lt C a d) (p : PermIn a (a + C) d d') (s : SortedIn lt a (a + C) d') : DoneB lt C (a + C) d' := fun k hk => by
  obtain ⟨q, rfl⟩ := hq
  rcases Nat.lt_trichotomy k q with c | c | c
  · have := mul_lt (C := C) c
    exact sorted_congr (h k (by omega)) fun i _ i2 => p.2.1 i (by omega)
  · subst c; exact s
  · have := mul_lt (C := C) c
    intro x y h1 h2 h3
    omega
theorem from_done {C a n : Nat} {d : Array M6} (hq : ∃ q, a = q * C) (h : DoneB lt C a d) (hn : n < a + C) (ha : a ≤ n) (hl : SortedIn lt a n d) : FromB lt C 0 n d := fun k => by
  obtain ⟨q, rfl⟩ := hq
  rw [Nat.zero_add]
  rcases Nat.lt_trichotomy k q with c | c | c
  · have := mul_lt (C := C) c
    rw [show min (k * C + C) n = k * C + C by omega]
    exact h k (by omega)
  · subst c; rw [show min (k * C + C) n = n by omega]; exact hl
  · have := mul_lt (C := C) c
    intro x y h1 h2 h3
    omega
theorem from_one {B a n : Nat} {d : Array M6} (h : FromB lt B a n d) : SortedIn lt a (min (a + B) n) d := by
  have := h 0
  rwa [Nat.zero_mul, Nat.add_zero] at this
theorem from_two {B a n : Nat} {d : Array M6} (h : FromB lt B a n d) : SortedIn lt (a + B) (min (a + B + B) n) d := by
  have := h 1
  rwa [Nat.one_mul] at this
theorem from_shift {B a n C : Nat} {d d' : Array M6} (hC : C = 2 * B) (h : FromB lt B a n d) (he : ∀ i, a + C ≤ i → d'[i]! = d[i]!) : FromB lt B (a + C) n d' := fun k => by
  have e : a + C + k * B = a + (k + 2) * B := by rw [Nat.add_mul, hC]; omega
  rw [e]
  refine sorted_congr (h (k + 2)) fun i i1 _ => he i ?_
  rw [← e] at i1
  omega
theorem from_all {B n : Nat} {d : Array M6} (h : FromB lt B 0 n d) (hn : n ≤ B) : SortedIn lt 0 n d := by
  have := from_one h
  rwa [Nat.zero_add, show min B n = n by omega] at this
end

set_option maxRecDepth 100000 in
theorem ins_none (A : Option Addr) (c : Nat) (fv : Value) (w : World) : Calls Try.prog 58 #[.slice A 0 c, .int .i64 0, .int .i64 0, fv] w fun e w' => e = .returned (.tuple #[]) ∧ w' = w := by
  go_enter Try.func58, Try.ntmps58
  go_wp2_with fail
  refine wp_loop_rounds 1 ?_
  rw [rounds_succ]
  go_wp2
  go_end0
  exact ⟨rfl, rfl⟩
set_option maxRecDepth 100000 in
theorem stable_none (A : Option Addr) (c : Nat) (fv : Value) (w : World) : Calls Try.prog 48 #[.slice A 0 c, .int .i64 0, fv] w fun e w' => e = .returned (.tuple #[]) ∧ w' = w := by
  go_enter Try.func48, Try.ntmps48
  go_wp2_with fail
  refine wp_loop_rounds 1 ?_
  rw [rounds_succ]
  go_wp2_with fail
  refine (ins_none _ _ _ _).mono ?_
  rintro e w' ⟨rfl, rfl⟩
  go_wp2_with fail
  refine wp_loop_rounds 1 ?_
  rw [rounds_succ]
  go_wp2
  go_end0
  exact ⟨rfl, rfl⟩

set_option maxRecDepth 1000000 in
set_option maxHeartbeats 16000000 in
theorem stable_any (blk off cap n : Nat) (d0 : Array M6) (w0 : World) (R : RowK encM 6 w0 blk off d0) (hn : d0.size = n) (hsz : n < 1152921504606846976) :
    Calls Try.prog 48 #[.slice (some ⟨blk, off, none⟩) n cap, .int .i64 n, .func (.func 42) #[] #[]] w0 fun e w' => e = .returned (.tuple #[]) ∧ ∃ d', SWK encM 6 w0 blk off d' w' ∧ PermIn 0 n d0 d' ∧ SortedIn (ltOf cfM) 0 n d' := by
  have S0 : Aside (SWK encM 6 w0 blk off d0 w0) := SWK.start R.hH
  have INS : Aside _ := fun (a b : Nat) (d : Array M6) (w : World) (hs : d.size = n) (S : SWK encM 6 w0 blk off d w) (hab : a ≤ b) (hb : b ≤ n) => by
    have := ins_any blk off cap a b d0 d w0 w R (by omega) S hab (by omega) (by omega)
    rwa [hn] at this
  have MRG : Aside _ := fun (a m b : Nat) (d : Array M6) (w : World) (hs : d.size = n) (S : SWK encM 6 w0 blk off d w) (h1 : a < m) (h2 : m < b) (h3 : b ≤ n) (s1 : SortedIn (ltOf cfM) a m d) (s2 : SortedIn (ltOf cfM) m b d) => by
    have := symMerge_any blk off cap d0 w0 R (by omega) (b - a + 1) a m b d w (by omega) (by omega) S h1 h2 (by omega) s1 s2
    rwa [hn] at this
  have HN : Aside (d0.size = n) := hn
  clear R hn
  go_enter Try.func48, Try.ntmps48
  go_wp2_with fail
  go_loopw [7, 8] (fun sa sb wr => ∃ (a b : Nat) (dk : Array M6), sa = .int .i64 a ∧ sb = .int .i64 b ∧ a + 20 ≤ b ∧ b ≤ a + 20 ∧ a ≤ n ∧ Aside (dk.size = n) ∧ Aside (SWK encM 6 w0 blk off dk wr) ∧ Aside (PermIn 0 n d0 dk) ∧ Aside (∃ q, a = q * 20) ∧ Aside (DoneB (ltOf cfM) 20 a dk)) (fun sa _ _ => n - (intOf sa).toNat)
  case atStart => exact ⟨0, 20, d0, rfl, rfl, by omega, by omega, by omega, HN, S0, (show PermIn _ _ _ _ from permIn_refl _ _ _), (show ∃ q, _ from ⟨0, by omega⟩), done_zero 20 (by omega) d0⟩
  case round =>
    clear S0
    obtain ⟨a, b, dk, rfl, rfl, b1, b2, an, DS, S, Pm, Q, D⟩ := hrel
    by_cases hb : b ≤ n
    · have t1 : decide ((b : Int) ≤ (n : Int)) = true := decide_eq_true (by omega)
      have t2 : decide (b ≤ n) = true := decide_eq_true hb
      have HCC := Lib.hid (INS.out a b dk wr DS.out S.out (by omega) hb)
      clear S
      go_wp2_with fail
      refine HCC.out.mono ?_
      rintro e w1 ⟨rfl, d1, hS, hP, hT⟩
      have S1 : Aside _ := hS
      have P1 : Aside _ := hP
      have T1 : Aside _ := hT
      clear hS hP hT HCC
      go_wp2_with fail
      go_roundw
      case rel =>
        have hba : b = a + 20 := by omega
        refine ⟨b, b + 20, d1, rfl, by go_num, by omega, by omega, hb, (show _ = _ from P1.out.1.trans DS.out), S1, (show PermIn _ _ _ _ from permIn_trans _ _ _ _ _ Pm.out (permIn_mono _ _ _ _ _ _ (by omega) hb (by have := DS.out; omega) P1.out)), ?_, ?_⟩
        · obtain ⟨q, hq⟩ := Q.out
          exact (show ∃ q, _ from ⟨q + 1, by omega⟩)
        · have k1 := P1.out
          have k2 := T1.out
          rw [hba] at k1 k2 ⊢
          exact done_step Q.out D.out k1 k2
      case measure => simp [intOf]; omega
    · have t1 : decide ((b : Int) ≤ (n : Int)) = false := decide_eq_false (by omega)
      have t2 : decide (b ≤ n) = false := decide_eq_false hb
      have HCC := Lib.hid (INS.out a n dk wr DS.out S.out an (by omega))
      clear S
      go_wp2_with fail
      refine HCC.out.mono ?_
      rintro e w1 ⟨rfl, d1, hS, hP, hT⟩
      have S1 : Aside _ := hS
      have P1 : Aside (PermIn 0 n d0 d1) := permIn_trans _ _ _ _ _ Pm.out (permIn_mono _ _ _ _ _ _ (by omega) (by omega) (by have := DS.out; omega) hP)
      have DS1 : Aside (d1.size = n) := hP.1.trans DS.out
      have F1 : Aside (FromB (ltOf cfM) 20 0 n d1) := from_done Q.out (done_congr D.out fun i hi => hP.2.1 i (by omega)) (by omega) an hT
      clear hS hP hT HCC
      clear Pm DS Q D hb t1 t2 b1 b2 an
      go_wp2_with fail
      go_loopw [6] (fun sB wr => ∃ (B : Nat) (dk : Array M6), sB = .int .i64 B ∧ 20 ≤ B ∧ (B ≤ 20 ∨ B ≤ 2 * n) ∧ Aside (dk.size = n) ∧ Aside (SWK encM 6 w0 blk off dk wr) ∧ Aside (PermIn 0 n d0 dk) ∧ Aside (FromB (ltOf cfM) B 0 n dk)) (fun sB _ => n - (intOf sB).toNat)
      case atStart => exact ⟨20, d1, rfl, by omega, by omega, DS1, S1, P1, F1⟩
      case round =>
        clear S1 P1 DS1 F1
        obtain ⟨B, dB, rfl, hB, hB2, DS, S, Pm, F⟩ := hrel
        by_cases hBn : B < n
        · have t1 : decide ((B : Int) < (n : Int)) = true := decide_eq_true (by omega)
          have t2 : decide (B < n) = true := decide_eq_true hBn
          obtain ⟨C, hC⟩ : ∃ C, C = 2 * B := ⟨_, rfl⟩
          have wC : IntKind.i64.wrap (2 * (B : Int)) = (C : Int) := by rw [IntKind.wrap_i64]; omega
          have wC2 : 2 * (B : Int) = (C : Int) := by omega
          have wC3 : IntKind.i64.wrap ((B : Int) * 2) = (C : Int) := by rw [IntKind.wrap_i64]; omega
          have wC4 : (B : Int) * 2 = (C : Int) := by omega
          have c1 : C ≤ 2 * B := by omega
          have c2 : 2 * B ≤ C := by omega
          have HC : Aside (C = 2 * B) := hC
          clear hC
          have S2 : Aside _ := S
          have P2 : Aside _ := Pm
          have DS2 : Aside _ := DS
          have F2 : Aside _ := F
          clear S Pm DS F
          go_wp2_with fail
          go_loopw [7, 8] (fun sa sb wr => ∃ (a b : Nat) (dk : Array M6), sa = .int .i64 a ∧ sb = .int .i64 b ∧ a + C ≤ b ∧ b ≤ a + C ∧ a ≤ n ∧ Aside (dk.size = n) ∧ Aside (SWK encM 6 w0 blk off dk wr) ∧ Aside (PermIn 0 n d0 dk) ∧ Aside (∃ q, a = q * C) ∧ Aside (DoneB (ltOf cfM) C a dk) ∧ Aside (FromB (ltOf cfM) B a n dk)) (fun sa _ _ => n - (intOf sa).toNat)
          case atStart => exact ⟨0, C, dB, rfl, rfl, by omega, by omega, by omega, DS2, S2, P2, (show ∃ q, _ from ⟨0, by omega⟩), done_zero C (by omega) dB, F2⟩
          case round =>
            clear S2 P2 DS2 F2
            obtain ⟨a, b, dk, rfl, rfl, b1, b2, an, DS, S, Pm, Q, D, F⟩ := hrel
            obtain ⟨m, hm⟩ : ∃ m, m = a + B := ⟨_, rfl⟩
            have wm : IntKind.i64.wrap ((a : Int) + (B : Int)) = (m : Int) := by rw [IntKind.wrap_i64]; omega
            have wm2 : (a : Int) + (B : Int) = (m : Int) := by omega
            have m1 : m ≤ a + B := by omega
            have m2 : a + B ≤ m := by omega
            have HM : Aside (a + B = m) := hm.symm
            clear hm
            by_cases hb : b ≤ n
            · have t3 : decide ((b : Int) ≤ (n : Int)) = true := decide_eq_true (by omega)
              have t4 : decide (b ≤ n) = true := decide_eq_true hb
              have f1 := from_one F.out
              have f2 := from_two F.out
              rw [HM.out] at f1 f2
              rw [show min m n = m by omega] at f1
              rw [show min (m + B) n = b by omega] at f2
              have HCC := Lib.hid (MRG.out a m b dk wr DS.out S.out (by omega) (by omega) hb f1 f2)
              clear S f1 f2
              go_wp2_with fail
              refine HCC.out.mono ?_
              rintro e w3 ⟨rfl, d3, hS, hP, hT⟩
              have S3 : Aside _ := hS
              have P3 : Aside _ := hP
              have T3 : Aside _ := hT
              clear hS hP hT HCC
              go_wp2_with fail
              go_roundw
              case rel =>
                have hba : b = a + C := by omega
                refine ⟨b, b + C, d3, rfl, by go_num, by omega, by omega, hb, (show _ = _ from P3.out.1.trans DS.out), S3, (show PermIn _ _ _ _ from permIn_trans _ _ _ _ _ Pm.out (permIn_mono _ _ _ _ _ _ (by omega) hb (by have := DS.out; omega) P3.out)), ?_, ?_, ?_⟩
                · obtain ⟨q, hq⟩ := Q.out
                  exact (show ∃ q, _ from ⟨q + 1, by rw [Nat.succ_mul]; omega⟩)
                · have k1 := P3.out
                  have k2 := T3.out
                  rw [hba] at k1 k2 ⊢
                  exact done_step Q.out D.out k1 k2
                · rw [hba]
                  exact from_shift HC.out F.out (fun i hi => P3.out.2.1 i (by omega))
              case measure => simp [intOf]; omega
            · have t3 : decide ((b : Int) ≤ (n : Int)) = false := decide_eq_false (by omega)
              have t4 : decide (b ≤ n) = false := decide_eq_false hb
              by_cases hmn : m < n
              · have t5 : decide ((m : Int) < (n : Int)) = true := decide_eq_true (by omega)
                have t6 : decide (m < n) = true := decide_eq_true hmn
                have f1 := from_one F.out
                have f2 := from_two F.out
                rw [HM.out] at f1 f2
                rw [show min m n = m by omega] at f1
                rw [show min (m + B) n = n by omega] at f2
                have HCC := Lib.hid (MRG.out a m n dk wr DS.out S.out (by omega) hmn (by omega) f1 f2)
                clear S f1 f2
                go_wp2_with fail
                refine HCC.out.mono ?_
                rintro e w3 ⟨rfl, d3, hS, hP, hT⟩
                have S3 : Aside _ := hS
                have P3 : Aside _ := hP
                have T3 : Aside _ := hT
                clear hS hP hT HCC
                go_wp2_with fail
                go_roundw
                case rel =>
                  exact ⟨C, d3, rfl, by omega, by omega, (show _ = _ from P3.out.1.trans DS.out), S3, (show PermIn _ _ _ _ from permIn_trans _ _ _ _ _ Pm.out (permIn_mono _ _ _ _ _ _ (by omega) (by omega) (by have := DS.out; omega) P3.out)),
                    from_done Q.out (done_congr D.out fun i hi => P3.out.2.1 i (by omega)) (by omega) an T3.out⟩
                case measure => simp [intOf]; omega
              · have t5 : decide ((m : Int) < (n : Int)) = false := decide_eq_false (by omega)
                have t6 : decide (m < n) = false := decide_eq_false hmn
                have f1 := from_one F.out
                rw [HM.out] at f1
                rw [show min m n = n by omega] at f1
                have T3 : Aside _ := f1
                clear f1
                go_wp2_with fail
                go_roundw
                case rel =>
                  exact ⟨C, dk, rfl, by omega, by omega, DS, S, Pm, from_done Q.out D.out (by omega) an T3.out⟩
                case measure => simp [intOf]; omega
        · have t1 : decide ((B : Int) < (n : Int)) = false := decide_eq_false (by omega)
          have t2 : decide (B < n) = false := decide_eq_false hBn
          go_wp2
          go_end0
          exact ⟨rfl, dB, S.out, Pm.out, from_all F.out (by omega)⟩
set_option maxRecDepth 100000 in
theorem SortStable_any (blk off cap n : Nat) (d0 : Array M6) (w0 : World) (R : RowK encM 6 w0 blk off d0) (hn : d0.size = n) (hsz : n < 1152921504606846976) :
    Calls Try.prog 41 #[.slice (some ⟨blk, off, none⟩) n cap, .func (.func 42) #[] #[]] w0 fun e w' => e = .returned (.tuple #[]) ∧ ∃ d', SWK encM 6 w0 blk off d' w' ∧ PermIn 0 n d0 d' ∧ SortedIn (ltOf cfM) 0 n d' := by
  have HCC := Lib.hid (stable_any blk off cap n d0 w0 R hn hsz)
  clear R hn
  go_enter Try.func41, Try.ntmps41
  go_wp2_with fail
  refine HCC.out.mono ?_
  rintro e w1 ⟨rfl, h⟩
  have H := Lib.hid h
  clear h HCC
  go_wp2_with fail
  go_end0
  exact ⟨rfl, H.out⟩
set_option maxRecDepth 100000 in
theorem SortStable_none (A : Option Addr) (c : Nat) (fv : Value) (w : World) : Calls Try.prog 41 #[.slice A 0 c, fv] w fun e w' => e = .returned (.tuple #[]) ∧ w' = w := by
  go_enter Try.func41, Try.ntmps41
  go_wp2_with fail
  refine (stable_none _ _ _ _).mono ?_
  rintro e w' ⟨rfl, rfl⟩
  go_wp2_with fail
  go_end0
  exact ⟨rfl, rfl⟩
end Go.Proofs.Ytbepnjgbkfidiaa.Tr
