/- Merged: EmPl ReAw0 EmPl2. -/
import Derived.Test.YtmfpaoincgfjmaaGreatTt5
namespace Go.Proofs.YtmfpaoincgfjmaaGreat.Em
open Go.Proofs.YtmfpaoincgfjmaaGreat.Utf
open Go.Proofs.YtmfpaoincgfjmaaGreat.Sc
open Go.Proofs.YtmfpaoincgfjmaaGreat.Re
open Go.Proofs.YtmfpaoincgfjmaaGreat.Ch (qbL qbL_le)
open Go.Proofs.YtmfpaoincgfjmaaGreat.Nu

def okS (s : List UInt8) : Prop := (ptsL s).2 = s.length
instance (s : List UInt8) : Decidable (okS s) := by unfold okS; infer_instance
def nmsOk (ns : List (List UInt8)) : Prop := ns.length ≤ 8192 → (∀ x ∈ ns, okS x) ∧ ns.Nodup
instance (ns : List (List UInt8)) : Decidable (nmsOk ns) := by unfold nmsOk; infer_instance
def own (k n : Int) (s : List UInt8) (a : Nat) (ns : List (List UInt8)) (b : Nat) : Prop :=
  ((1 ≤ k ∧ k ≤ 6) ∧ ((k ≠ 2 ∧ k ≠ 3) → n = 0) ∧ (k ≠ 4 → s = []) ∧ (k ≠ 5 → a = 0) ∧ (k ≠ 6 → b = 0)) ∧
    (k = 2 → n = 0 ∨ n = 1) ∧ (k = 3 → -9007199254740991 ≤ n ∧ n ≤ 9007199254740991) ∧ (k = 4 → okS s) ∧ (k = 6 → nmsOk ns)
instance (k n : Int) (s : List UInt8) (a : Nat) (ns : List (List UInt8)) (b : Nat) : Decidable (own k n s a ns b) := by unfold own; infer_instance

def qt (s : List UInt8) : List UInt8 := 34 :: (qbL s ++ [34])
mutual
/-- a value's text -/
def emV : V → List UInt8
  | .mk k n s l ns ms => if k = 1 then wNull else if k = 2 then (if n = 1 then wTrue else wFalse) else if k = 3 then putL n else if k = 4 then qt s
    else if k = 5 then 91 :: ((emT l).drop 1 ++ [93]) else 123 :: ((emM ns ms).drop 1 ++ [125])
/-- the texts of values, each with a comma ahead -/
def emT : List V → List UInt8
  | [] => []
  | v :: r => 44 :: (emV v ++ emT r)
/-- the texts of members, each with a comma ahead -/
def emM : List (List UInt8) → List V → List UInt8
  | _, [] => []
  | ns, v :: r => 44 :: (qt (ns.headD []) ++ 58 :: (emV v ++ emM ns.tail r))
end
mutual
/-- how many values are right from one on, with those ahead; and why no more -/
def wk : V → Nat → Nat → Nat × Int
  | .mk k n s l ns ms, d, p => if 16 < d then (p, 51) else if p = 8192 then (p, 53) else if own k n s l.length ns ms.length then
      (if (wkL l (d + 1) (p + 1)).2 ≠ 0 then wkL l (d + 1) (p + 1) else wkL ms (d + 1) (wkL l (d + 1) (p + 1)).1) else (p, 1)
def wkL : List V → Nat → Nat → Nat × Int
  | [], _, p => (p, 0)
  | v :: r, d, p => if (wk v d p).2 ≠ 0 then wk v d p else wkL r d (wk v d p).1
end
mutual
/-- is each value right by itself? -/
def allV : V → Prop
  | .mk k n s l ns ms => own k n s l.length ns ms.length ∧ allL l ∧ allL ms
def allL : List V → Prop
  | [] => True
  | v :: r => allV v ∧ allL r
end
mutual
/-- can each value be written? -/
def okW : V → Prop
  | .mk k n s l ns ms => own k n s l.length ns ms.length ∧ (∀ x ∈ ns, okS x) ∧ okWL l ∧ okWL ms
def okWL : List V → Prop
  | [] => True
  | v :: r => okW v ∧ okWL r
end
mutual
/-- a value for each name -/
def lenV : V → Prop
  | .mk _ _ _ l ns ms => ns.length = ms.length ∧ lenL l ∧ lenL ms
def lenL : List V → Prop
  | [] => True
  | v :: r => lenV v ∧ lenL r
end
mutual
/-- no map is too great -/
def small : V → Prop
  | .mk _ _ _ l ns ms => ns.length ≤ 8192 ∧ smallL l ∧ smallL ms
def smallL : List V → Prop
  | [] => True
  | v :: r => small v ∧ smallL r
end
mutual
/-- how large a value is -/
def szU : V → Nat
  | .mk _ _ s l ns ms => 1 + s.length + szUL l + (ns.map fun x => 1 + x.length).sum + szUL ms
def szUL : List V → Nat
  | [] => 0
  | v :: r => szU v + szUL r
end

mutual
theorem wk_le : ∀ (v : V) (d p : Nat), p ≤ 8192 → (wk v d p).1 ≤ 8192 ∧ ((wk v d p).2 = 0 ∨ (wk v d p).2 = 1 ∨ (wk v d p).2 = 51 ∨ (wk v d p).2 = 53)
  | .mk k n s l ns ms, d, p, hp => by
    rw [wk]
    by_cases h1 : 16 < d
    · rw [if_pos h1]; simp; omega
    rw [if_neg h1]
    by_cases h2 : p = 8192
    · rw [if_pos h2]; simp; omega
    rw [if_neg h2]
    by_cases h3 : own k n s l.length ns ms.length
    · rw [if_pos h3]
      have a := wkL_le l (d + 1) (p + 1) (by omega)
      by_cases h4 : (wkL l (d + 1) (p + 1)).2 ≠ 0
      · rw [if_pos h4]; exact a
      · rw [if_neg h4]; exact wkL_le ms (d + 1) _ a.1
    · rw [if_neg h3]; simp; omega
theorem wkL_le : ∀ (l : List V) (d p : Nat), p ≤ 8192 → (wkL l d p).1 ≤ 8192 ∧ ((wkL l d p).2 = 0 ∨ (wkL l d p).2 = 1 ∨ (wkL l d p).2 = 51 ∨ (wkL l d p).2 = 53)
  | [], d, p, hp => by rw [wkL]; simp; omega
  | v :: r, d, p, hp => by
    rw [wkL]
    have a := wk_le v d p hp
    by_cases h4 : (wk v d p).2 ≠ 0
    · rw [if_pos h4]; exact a
    · rw [if_neg h4]; exact wkL_le r d _ a.1
end
mutual
theorem wk_ok : ∀ (v : V) (d p : Nat), p ≤ 8192 → (wk v d p).2 = 0 → (wk v d p).1 = p + cnt v ∧ p + cnt v ≤ 8192 ∧ dp v d ≤ 16 ∧ allV v
  | .mk k n s l ns ms, d, p, hp => by
    rw [wk]
    by_cases h1 : 16 < d
    · rw [if_pos h1]; intro h; simp at h
    rw [if_neg h1]
    by_cases h2 : p = 8192
    · rw [if_pos h2]; intro h; simp at h
    rw [if_neg h2]
    by_cases h3 : own k n s l.length ns ms.length
    · rw [if_pos h3]
      by_cases h4 : (wkL l (d + 1) (p + 1)).2 ≠ 0
      · rw [if_pos h4]; intro h; exact absurd h h4
      · rw [if_neg h4]
        intro h
        obtain ⟨a1, a2, a3, a4⟩ := wkL_ok l (d + 1) (p + 1) (by omega) (by simpa using h4)
        rw [a1] at h ⊢
        obtain ⟨b1, b2, b3, b4⟩ := wkL_ok ms (d + 1) (p + 1 + cntL l) (by omega) h
        rw [b1, cnt, dp, allV]
        exact ⟨by omega, by omega, by omega, h3, a4, b4⟩
    · rw [if_neg h3]; intro h; simp at h
theorem wkL_ok : ∀ (l : List V) (d p : Nat), p ≤ 8192 → (wkL l d p).2 = 0 → (wkL l d p).1 = p + cntL l ∧ p + cntL l ≤ 8192 ∧ dpL l d ≤ 16 ∧ allL l
  | [], d, p, hp => by rw [wkL, cntL, dpL, allL]; simp; omega
  | v :: r, d, p, hp => by
    rw [wkL]
    by_cases h4 : (wk v d p).2 ≠ 0
    · rw [if_pos h4]; intro h; exact absurd h h4
    · rw [if_neg h4]
      intro h
      obtain ⟨a1, a2, a3, a4⟩ := wk_ok v d p hp (by simpa using h4)
      rw [a1] at h ⊢
      obtain ⟨b1, b2, b3, b4⟩ := wkL_ok r d (p + cnt v) (by omega) h
      rw [b1, cntL, dpL, allL]
      exact ⟨by omega, by omega, by omega, a4, b4⟩
end
mutual
theorem wk_wrong : ∀ (v : V) (d p : Nat), (wk v d p).2 = 1 → ¬ allV v
  | .mk k n s l ns ms, d, p => by
    rw [wk, allV]
    split
    · intro h; simp at h
    split
    · intro h; simp at h
    split
    · rename_i h3
      split
      · intro h ⟨_, a, _⟩; exact wkL_wrong l _ _ h a
      · intro h ⟨_, _, b⟩; exact wkL_wrong ms _ _ h b
    · rename_i h3; intro _ ⟨a, _⟩; exact h3 a
theorem wkL_wrong : ∀ (l : List V) (d p : Nat), (wkL l d p).2 = 1 → ¬ allL l
  | [], d, p => by rw [wkL]; intro h; simp at h
  | v :: r, d, p => by
    rw [wkL, allL]
    split
    · intro h ⟨a, _⟩; exact wk_wrong v _ _ h a
    · intro h ⟨_, b⟩; exact wkL_wrong r _ _ h b
end
def chk (v : V) : Int := (wk v 1 0).2
theorem chk_ok {v : V} (h : chk v = 0) : cnt v ≤ 8192 ∧ dp v 1 ≤ 16 ∧ allV v := by
  obtain ⟨_, a, b, c⟩ := wk_ok v 1 0 (by omega) h
  exact ⟨by omega, b, c⟩
mutual
theorem len_small : ∀ v : V, lenV v → cnt v ≤ 8192 → small v
  | .mk k n s l ns ms, h, hc => by
    rw [lenV] at h
    rw [cnt] at hc
    rw [small]
    have := cntL_ge ms
    exact ⟨by omega, lenL_small l h.2.1 (by omega), lenL_small ms h.2.2 (by omega)⟩
theorem lenL_small : ∀ l : List V, lenL l → cntL l ≤ 8192 → smallL l
  | [], _, _ => by rw [smallL]; trivial
  | v :: r, h, hc => by
    rw [lenL] at h
    rw [cntL] at hc
    rw [smallL]
    exact ⟨len_small v h.1 (by omega), lenL_small r h.2 (by omega)⟩
theorem cntL_ge : ∀ l : List V, l.length ≤ cntL l
  | [] => by simp
  | v :: r => by
    rw [cntL, List.length_cons]
    have := cntL_ge r
    have := cnt_pos v
    omega
end
mutual
theorem okW_iff : ∀ v : V, small v → lenV v → (okW v ↔ allV v)
  | .mk k n s l ns ms, h, hl => by
    rw [small] at h
    rw [lenV] at hl
    rw [okW, allV, okWL_iff l h.2.1 hl.2.1, okWL_iff ms h.2.2 hl.2.2]
    refine ⟨fun ⟨a, _, b, c⟩ => ⟨a, b, c⟩, fun ⟨a, b, c⟩ => ⟨a, ?_, b, c⟩⟩
    by_cases hk : k = 6
    · exact (a.2.2.2.2 hk h.1).1
    · have := a.1.2.2.2.2 hk
      have e : ns = [] := List.eq_nil_of_length_eq_zero (by omega)
      subst e
      intro x hx
      cases hx
theorem okWL_iff : ∀ l : List V, smallL l → lenL l → (okWL l ↔ allL l)
  | [], _, _ => by rw [okWL, allL]
  | v :: r, h, hl => by
    rw [smallL] at h
    rw [lenL] at hl
    rw [okWL, allL, okW_iff v h.1 hl.1, okWL_iff r h.2 hl.2]
end
theorem chk_okW {v : V} (h : chk v = 0) (hl : lenV v) : okW v := (okW_iff v (len_small v hl (chk_ok h).1) hl).2 (chk_ok h).2.2

theorem qt_len (s : List UInt8) : (qt s).length ≤ 6 * s.length + 2 := by
  have := qbL_le s
  unfold qt
  simp only [List.length_cons, List.length_append, List.length_nil]
  omega
mutual
theorem emV_len : ∀ v : V, lenV v → (emV v).length + 1 ≤ 24 * szU v
  | .mk k n s l ns ms, h => by
    rw [lenV] at h
    have a := emT_len l h.2.1
    have b := emM_len ms ns h.1 h.2.2
    have c := qt_len s
    have d := (putL_len n).2
    rw [emV, szU]
    split
    · show 4 + 1 ≤ _; omega
    split
    · split
      · show 4 + 1 ≤ _; omega
      · show 5 + 1 ≤ _; omega
    split
    · omega
    split
    · omega
    split
    · simp only [List.length_cons, List.length_append, List.length_drop, List.length_nil]; omega
    · simp only [List.length_cons, List.length_append, List.length_drop, List.length_nil]; omega
theorem emT_len : ∀ l : List V, lenL l → (emT l).length ≤ 24 * szUL l
  | [], _ => by rw [emT]; simp
  | v :: r, h => by
    rw [lenL] at h
    have a := emV_len v h.1
    have b := emT_len r h.2
    rw [emT, szUL]
    simp only [List.length_cons, List.length_append]
    omega
theorem emM_len : ∀ (ms : List V) (ns : List (List UInt8)), ns.length = ms.length → lenL ms → (emM ns ms).length ≤ 24 * ((ns.map fun x => 1 + x.length).sum + szUL ms)
  | [], ns, _, _ => by rw [emM]; simp
  | v :: r, ns, hn, h => by
    rw [lenL] at h
    cases ns with
    | nil => simp at hn
    | cons x ns =>
      have a := emV_len v h.1
      have b := emM_len r ns (by simpa using hn) h.2
      have c := qt_len x
      rw [emM, szUL]
      simp only [List.length_cons, List.length_append, List.headD_cons, List.tail_cons, List.map_cons, List.sum_cons]
      omega
end
theorem emT_app : ∀ a b : List V, emT (a ++ b) = emT a ++ emT b := by
  intro a b
  induction a with
  | nil => rfl
  | cons v r ih => rw [List.cons_append, emT, emT, ih]; simp
theorem emM_app : ∀ (a b : List V) (na nb : List (List UInt8)), na.length = a.length → emM (na ++ nb) (a ++ b) = emM na a ++ emM nb b := by
  intro a b
  induction a with
  | nil => intro na nb h; obtain rfl := List.eq_nil_of_length_eq_zero h; simp [emM]
  | cons v r ih =>
    intro na nb h
    cases na with
    | nil => simp at h
    | cons x na =>
      have := ih na nb (by simpa using h)
      rw [List.cons_append, List.cons_append, emM, emM]
      simp [this]
theorem emT_take (l : List V) (k : Nat) (h : k < l.length) : emT (l.take (k + 1)) = emT (l.take k) ++ 44 :: emV l[k] := by
  rw [take_succ' l k h, emT_app, emT, emT, List.append_nil]
theorem emM_take (ns : List (List UInt8)) (ms : List V) (k : Nat) (h : k < ms.length) (hn : k < ns.length) (hl : ns.length = ms.length) :
    emM (ns.take (k + 1)) (ms.take (k + 1)) = emM (ns.take k) (ms.take k) ++ 44 :: (qt ns[k] ++ 58 :: emV ms[k]) := by
  rw [take_succ' ms k h, take_succ' ns k hn, emM_app _ _ _ _ (by simp [List.length_take]; omega), emM, emM]
  simp
end Go.Proofs.YtmfpaoincgfjmaaGreat.Em
namespace Go.Proofs.YtmfpaoincgfjmaaGreat.Re
open Go.Proofs.YtmfpaoincgfjmaaGreat.Utf
open Go.Proofs.YtmfpaoincgfjmaaGreat.Sc
set_option linter.unusedSimpArgs false
theorem rdV_of {l : List UInt8} {ts : List Tok} {r : V × Int × Int} (h : scnS l = (ts, 0, 0)) (h2 : rdT ts (l.length : Int) = r) : rdV l = r := by
  unfold rdV
  rw [h]
  exact h2
end Go.Proofs.YtmfpaoincgfjmaaGreat.Re
namespace Go.Proofs.YtmfpaoincgfjmaaGreat.Em
open Go.Proofs.YtmfpaoincgfjmaaGreat.Utf
open Go.Proofs.YtmfpaoincgfjmaaGreat.Sc
open Go.Proofs.YtmfpaoincgfjmaaGreat.Re
open Go.Proofs.YtmfpaoincgfjmaaGreat.Ch (qbL qbL_le)
open Go.Proofs.YtmfpaoincgfjmaaGreat.Nu

theorem own_l {k n : Int} {s : List UInt8} {l ms : List V} {ns : List (List UInt8)} (h : own k n s l.length ns ms.length) (hk : k ≠ 5) : l = [] := List.eq_nil_of_length_eq_zero (h.1.2.2.2.1 hk)
theorem own_m {k n : Int} {s : List UInt8} {l ms : List V} {ns : List (List UInt8)} (h : own k n s l.length ns ms.length) (hk : k ≠ 6) : ms = [] := List.eq_nil_of_length_eq_zero (h.1.2.2.2.2 hk)
end Go.Proofs.YtmfpaoincgfjmaaGreat.Em
