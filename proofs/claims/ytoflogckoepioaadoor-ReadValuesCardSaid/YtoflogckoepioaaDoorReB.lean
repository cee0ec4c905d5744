import Derived.Test.YtoflogckoepioaaDoorReA
/- Contract of layer 5's law's count. -/
namespace Go.Proofs.YtoflogckoepioaaDoor.Re
open Go.RowKit
open Go.Proofs.YtoflogckoepioaaDoor.Utf
open Go.Proofs.YtoflogckoepioaaDoor.Sc

theorem cntL_take (l : List V) (k : Nat) (h : k < l.length) : cntL (l.take (k + 1)) = cntL (l.take k) + cnt l[k] := by
  rw [take_succ' l k h]
  have : ∀ (a : List V) (v : V), cntL (a ++ [v]) = cntL a + cnt v := by
    intro a v
    induction a with
    | nil => simp [cntL]
    | cons b r ih => rw [List.cons_append, cntL, ih, cntL]; omega
  exact this _ _
theorem dpL_take (l : List V) (d k : Nat) (h : k < l.length) : dpL (l.take (k + 1)) d = max (dpL (l.take k) d) (dp l[k] d) := by
  rw [take_succ' l k h]
  have : ∀ (a : List V) (v : V), dpL (a ++ [v]) d = max (dpL a d) (dp v d) := by
    intro a v
    induction a with
    | nil => simp [dpL]
    | cons b r ih => rw [List.cons_append, dpL, ih, dpL]; omega
  exact this _ _
theorem cntL_le (l : List V) (k : Nat) : cntL (l.take k) ≤ cntL l := by
  induction l generalizing k with
  | nil => simp [cntL]
  | cons v r ih =>
    cases k with
    | zero => simp [cntL]
    | succ k => rw [List.take_succ_cons, cntL, cntL]; have := ih k; omega
theorem htL_take (l : List V) (k : Nat) : htL (l.take k) ≤ htL l := by
  induction l generalizing k with
  | nil => simp [htL]
  | cons v r ih =>
    cases k with
    | zero => simp [htL]
    | succ k => rw [List.take_succ_cons, htL, htL]; have := ih k; omega
theorem okL_mem {v : V} {l : List V} (h : okL l) (hv : v ∈ l) : okV v := by
  induction l with
  | nil => cases hv
  | cons a r ih =>
    rw [okL] at h
    rcases List.mem_cons.1 hv with rfl | hv
    · exact h.1
    · exact ih h.2 hv
theorem okV_eq (v : V) : okV v ↔ v.ns.length = v.ms.length ∧ v.ns.Nodup ∧ okL v.l ∧ okL v.ms := by cases v; rw [okV]; rfl
theorem dp_eq (v : V) (d : Nat) : dp v d = max d (max (dpL v.l (d + 1)) (dpL v.ms (d + 1))) := by cases v; rw [dp]; rfl

mutual
theorem dp_le : ∀ (v : V) (d : Nat), dp v d ≤ d + ht v
  | .mk k n s l ns ms, d => by
    have h1 := dpL_le l (d + 1)
    have h2 := dpL_le ms (d + 1)
    rw [dp, ht]
    omega
theorem dpL_le : ∀ (l : List V) (d : Nat), dpL l d ≤ d + htL l
  | [], d => by rw [dpL]; omega
  | v :: r, d => by
    have h1 := dp_le v d
    have h2 := dpL_le r d
    rw [dpL, htL]
    omega
end

end Go.Proofs.YtoflogckoepioaaDoor.Re
