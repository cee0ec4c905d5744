import Derived.Test.YtbepnjgbkfidiaaScPl
/- Plain facts on values of JSON: what is read of tokens. No run of the program in this text. -/
namespace Go.Proofs.Ytbepnjgbkfidiaa.Re
open Go.Proofs.Ytbepnjgbkfidiaa.Utf
open Go.Proofs.Ytbepnjgbkfidiaa.Sc

/-- a value: its kind, number, text, its values; its members' names, and their values -/
inductive V : Type
  | mk (k n : Int) (s : List UInt8) (l : List V) (ns : List (List UInt8)) (ms : List V) : V
def V.k : V → Int | .mk k _ _ _ _ _ => k
def V.n : V → Int | .mk _ n _ _ _ _ => n
def V.s : V → List UInt8 | .mk _ _ s _ _ _ => s
def V.l : V → List V | .mk _ _ _ l _ _ => l
def V.ns : V → List (List UInt8) | .mk _ _ _ _ ns _ => ns
def V.ms : V → List V | .mk _ _ _ _ _ ms => ms
theorem V.eta (v : V) : V.mk v.k v.n v.s v.l v.ns v.ms = v := by cases v; rfl
def V0 : V := .mk 0 0 [] [] [] []
def txV (s : List UInt8) : V := .mk 4 0 s [] [] []
def nmV (n : Int) : V := .mk 3 n [] [] [] []
def wdV (s : List UInt8) : V := if s = wNull then .mk 1 0 [] [] [] [] else if s = wTrue then .mk 2 1 [] [] [] [] else .mk 2 0 [] [] [] []
def lsV (l : List V) : V := .mk 5 0 [] l [] []
def mpV (x : List (List UInt8) × List V) : V := .mk 6 0 [] [] x.1 x.2

mutual
/-- how high a value is -/
def ht : V → Nat
  | .mk _ _ _ l _ ms => max (htL l) (htL ms) + 1
def htL : List V → Nat
  | [] => 0
  | v :: r => max (ht v) (htL r)
end
theorem htL_mem {v : V} {l : List V} (h : v ∈ l) : ht v ≤ htL l := by
  induction l with
  | nil => cases h
  | cons a r ih =>
    rw [htL]
    rcases List.mem_cons.1 h with rfl | h
    · omega
    · have := ih h; omega

/-- what is read: a value (or values), the next token's number, how many values; or the place of a fault, and why -/
inductive Rs (α : Type) : Type
  | bad (a y : Int) : Rs α
  | ok (v : α) (i p : Nat) : Rs α
def Rs.map {α β : Type} (f : α → β) : Rs α → Rs β
  | .bad a y => .bad a y
  | .ok v i p => .ok (f v) i p

/-- the token of a number; behind the last one one of no kind -/
def tk (ts : List Tok) (E : Int) (i : Nat) : Tok := ts.getD i (0, 0, [], E)
/-- is a token a mark? -/
def isM (t : Tok) (c : UInt8) : Bool := decide (t.1 = 1 ∧ t.2.2.1 = [c])
def badV (t : Tok) : Bool := decide (t.1 = 0 ∨ (t.1 = 1 ∧ t.2.2.1 ≠ [91] ∧ t.2.2.1 ≠ [123]))

mutual
/-- the value that begins with a token -/
def pV (ts : List Tok) (E : Int) : Nat → Nat → Nat → Nat → Rs V
  | 0, _, i, _ => .bad (tk ts E i).2.2.2 50
  | f + 1, d, i, p =>
    if badV (tk ts E i) = true then .bad (tk ts E i).2.2.2 50
    else if 16 < d then .bad (tk ts E i).2.2.2 51
    else if p = 8192 then .bad (tk ts E i).2.2.2 53
    else if (tk ts E i).1 = 4 then .ok (txV (tk ts E i).2.2.1) (i + 1) (p + 1)
    else if (tk ts E i).1 = 3 then .ok (nmV (tk ts E i).2.1) (i + 1) (p + 1)
    else if (tk ts E i).1 = 2 then .ok (wdV (tk ts E i).2.2.1) (i + 1) (p + 1)
    else if (tk ts E i).2.2.1 = [91] then
      (if isM (tk ts E (i + 1)) 93 = true then .ok (lsV []) (i + 1 + 1) (p + 1) else (pL ts E f d (i + 1) (p + 1)).map lsV)
    else
      (if isM (tk ts E (i + 1)) 125 = true then .ok (mpV ([], [])) (i + 1 + 1) (p + 1) else (pM ts E f d (i + 1) (p + 1) []).map mpV)
/-- the values of a list, from one on -/
def pL (ts : List Tok) (E : Int) : Nat → Nat → Nat → Nat → Rs (List V)
  | 0, _, i, _ => .bad (tk ts E i).2.2.2 50
  | f + 1, d, i, p =>
    match pV ts E f (d + 1) i p with
    | .bad a y => .bad a y
    | .ok v j q =>
      if isM (tk ts E j) 93 = true then .ok [v] (j + 1) q
      else if isM (tk ts E j) 44 = true then (pL ts E f d (j + 1) q).map fun vs => v :: vs
      else .bad (tk ts E j).2.2.2 50
/-- the members of a map, from one on; ns: the names of those ahead -/
def pM (ts : List Tok) (E : Int) : Nat → Nat → Nat → Nat → List (List UInt8) → Rs (List (List UInt8) × List V)
  | 0, _, i, _, _ => .bad (tk ts E i).2.2.2 50
  | f + 1, d, i, p, ns =>
    if (tk ts E i).1 ≠ 4 then .bad (tk ts E i).2.2.2 50
    else if (tk ts E i).2.2.1 ∈ ns then .bad (tk ts E i).2.2.2 52
    else if isM (tk ts E (i + 1)) 58 = false then .bad (tk ts E (i + 1)).2.2.2 50
    else match pV ts E f (d + 1) (i + 1 + 1) p with
    | .bad a y => .bad a y
    | .ok v j q =>
      if isM (tk ts E j) 125 = true then .ok ([(tk ts E i).2.2.1], [v]) (j + 1) q
      else if isM (tk ts E j) 44 = true then (pM ts E f d (j + 1) q (ns ++ [(tk ts E i).2.2.1])).map fun x => ((tk ts E i).2.2.1 :: x.1, v :: x.2)
      else .bad (tk ts E j).2.2.2 50
end
/-- as much as is enough for any tokens -/
def fuelOf (ts : List Tok) : Nat := 2 * ts.length + 4
/-- what tokens are -/
def rdT (ts : List Tok) (E : Int) : V × Int × Int :=
  match pV ts E (fuelOf ts) 1 0 0 with
  | .bad a y => (V0, a, y)
  | .ok v i _ => if i < ts.length then (V0, (tk ts E i).2.2.2, 50) else (v, 0, 0)
/-- what Value tells of a text -/
def rdV (l : List UInt8) : V × Int × Int :=
  if (scnS l).2.2 ≠ 0 then (V0, (scnS l).2.1, (scnS l).2.2) else rdT (scnS l).1 (l.length : Int)

theorem tk_in {ts : List Tok} {E : Int} {i : Nat} (h : i < ts.length) : tk ts E i = ts[i] := by
  unfold tk; rw [List.getD_eq_getElem?_getD, List.getElem?_eq_getElem h]; rfl
theorem tk_out {ts : List Tok} {E : Int} {i : Nat} (h : ts.length ≤ i) : tk ts E i = (0, 0, [], E) := by
  unfold tk; rw [List.getD_eq_getElem?_getD, List.getElem?_eq_none h]; rfl
theorem isM_in {ts : List Tok} {E : Int} {i : Nat} {c : UInt8} (h : isM (tk ts E i) c = true) : i < ts.length := by
  rcases Nat.lt_or_ge i ts.length with h1 | h1
  · exact h1
  · rw [tk_out h1] at h; simp [isM] at h
theorem badV_in {ts : List Tok} {E : Int} {i : Nat} (h : badV (tk ts E i) = false) : i < ts.length := by
  rcases Nat.lt_or_ge i ts.length with h1 | h1
  · exact h1
  · rw [tk_out h1] at h; simp [badV] at h

mutual
/-- how many values there are in one -/
def cnt : V → Nat
  | .mk _ _ _ l _ ms => 1 + cntL l + cntL ms
def cntL : List V → Nat
  | [] => 0
  | v :: r => cnt v + cntL r
end
mutual
/-- how deep values lie -/
def dp : V → Nat → Nat
  | .mk _ _ _ l _ ms, d => max d (max (dpL l (d + 1)) (dpL ms (d + 1)))
def dpL : List V → Nat → Nat
  | [], _ => 0
  | v :: r, d => max (dp v d) (dpL r d)
end
mutual
/-- no name twice, a value for each name -/
def okV : V → Prop
  | .mk _ _ _ l ns ms => ns.length = ms.length ∧ ns.Nodup ∧ okL l ∧ okL ms
def okL : List V → Prop
  | [] => True
  | v :: r => okV v ∧ okL r
end
mutual
/-- the first fault by depth or number that a value has, that begins so deep, behind so many: 0, 51, 53 -/
def fit : V → Nat → Nat → Int
  | .mk _ _ _ l _ ms, d, p => if 16 < d then 51 else if p = 8192 then 53 else if fitL l (d + 1) (p + 1) ≠ 0 then fitL l (d + 1) (p + 1) else fitL ms (d + 1) (p + 1 + cntL l)
def fitL : List V → Nat → Nat → Int
  | [], _, _ => 0
  | v :: r, d, p => if fit v d p ≠ 0 then fit v d p else fitL r d (p + cnt v)
end
theorem cnt_pos (v : V) : 1 ≤ cnt v := by cases v; rw [cnt]; omega
mutual
theorem dp_up : ∀ (v : V) (d : Nat), dp v (d + 1) = dp v d + 1
  | .mk k n s l ns ms, d => by
    have h1 := dpL_up l (d + 1)
    have h2 := dpL_up ms (d + 1)
    rw [dp, dp]
    omega
theorem dpL_up : ∀ (l : List V) (d : Nat), (l = [] ∧ dpL l d = 0 ∧ dpL l (d + 1) = 0) ∨ dpL l (d + 1) = dpL l d + 1
  | [], d => .inl ⟨rfl, rfl, rfl⟩
  | v :: r, d => by
    have h1 := dp_up v d
    have h2 := dpL_up r d
    refine .inr ?_
    rw [dpL, dpL]
    omega
end
mutual
theorem fit_iff : ∀ (v : V) (d p : Nat), p ≤ 8192 → ((fit v d p = 0 ↔ dp v d ≤ 16 ∧ p + cnt v ≤ 8192) ∧ (fit v d p = 0 ∨ fit v d p = 51 ∨ fit v d p = 53))
  | .mk k n s l ns ms, d, p, hp => by
    rw [fit, dp, cnt]
    by_cases h1 : 16 < d
    · rw [if_pos h1]
      exact ⟨⟨fun h => absurd h (by decide), fun h => by omega⟩, .inr (.inl rfl)⟩
    · rw [if_neg h1]
      by_cases h2 : p = 8192
      · rw [if_pos h2]
        exact ⟨⟨fun h => absurd h (by decide), fun h => by omega⟩, .inr (.inr rfl)⟩
      · rw [if_neg h2]
        obtain ⟨a1, a2⟩ := fitL_iff l (d + 1) (p + 1) (by omega)
        by_cases h3 : fitL l (d + 1) (p + 1) = 0
        · rw [if_neg (by simpa using h3)]
          have h4 := a1.1 h3
          obtain ⟨b1, b2⟩ := fitL_iff ms (d + 1) (p + 1 + cntL l) (by omega)
          refine ⟨⟨fun h => ?_, fun h => ?_⟩, b2⟩
          · have := b1.1 h; omega
          · exact b1.2 (by omega)
        · rw [if_pos h3]
          refine ⟨⟨fun h => absurd h h3, fun h => ?_⟩, a2⟩
          exact absurd (a1.2 (by omega)) h3
theorem fitL_iff : ∀ (l : List V) (d p : Nat), p ≤ 8192 → ((fitL l d p = 0 ↔ dpL l d ≤ 16 ∧ p + cntL l ≤ 8192) ∧ (fitL l d p = 0 ∨ fitL l d p = 51 ∨ fitL l d p = 53))
  | [], d, p, hp => by
    rw [fitL, dpL, cntL]
    exact ⟨⟨fun _ => by omega, fun _ => rfl⟩, .inl rfl⟩
  | v :: r, d, p, hp => by
    rw [fitL, dpL, cntL]
    obtain ⟨a1, a2⟩ := fit_iff v d p hp
    by_cases h3 : fit v d p = 0
    · rw [if_neg (by simpa using h3)]
      have h4 := a1.1 h3
      obtain ⟨b1, b2⟩ := fitL_iff r d (p + cnt v) (by omega)
      refine ⟨⟨fun h => ?_, fun h => ?_⟩, b2⟩
      · have := b1.1 h; omega
      · exact b1.2 (by omega)
    · rw [if_pos h3]
      refine ⟨⟨fun h => absurd h h3, fun h => ?_⟩, a2⟩
      exact absurd (a1.2 (by omega)) h3
end
end Go.Proofs.Ytbepnjgbkfidiaa.Re
