import Derived.Test.YtbepnjgbkfidiaaRePl4
/- Plain facts on values of JSON: lists and members, part by part. No run of the program in this text. -/
namespace Go.Proofs.Ytbepnjgbkfidiaa.Re
open Go.Proofs.Ytbepnjgbkfidiaa.Utf
open Go.Proofs.Ytbepnjgbkfidiaa.Sc

/-- the values of a list, from what stands behind one (or behind its beginning) on -/
def gL (ts : List Tok) (E : Int) (f d j q : Nat) (first : Bool) : Rs (List V) :=
  if isM (tk ts E j) 93 = true then .ok [] (j + 1) q else if first = true then pL ts E f d j q
  else if isM (tk ts E j) 44 = true then pL ts E f d (j + 1) q else .bad (tk ts E j).2.2.2 50
/-- the members of a map likewise -/
def gM (ts : List Tok) (E : Int) (f d j q : Nat) (ns : List (List UInt8)) (first : Bool) : Rs (List (List UInt8) × List V) :=
  if isM (tk ts E j) 125 = true then .ok ([], []) (j + 1) q else if first = true then pM ts E f d j q ns
  else if isM (tk ts E j) 44 = true then pM ts E f d (j + 1) q ns else .bad (tk ts E j).2.2.2 50

theorem Rs.map_map {α β γ : Type} (r : Rs α) (f : α → β) (g : β → γ) : (r.map f).map g = r.map fun x => g (f x) := by cases r <;> rfl
theorem Rs.map_id {α : Type} (r : Rs α) : (r.map fun x => x) = r := by cases r <;> rfl
theorem Rs.map_congr {α β : Type} {f g : α → β} (r : Rs α) (h : ∀ x, f x = g x) : r.map f = r.map g := by rw [funext h]
theorem pL_bad {ts : List Tok} {E : Int} {f d i p : Nat} {a y : Int} (h : pV ts E f (d + 1) i p = .bad a y) : pL ts E (f + 1) d i p = .bad a y := by rw [pL, h]
theorem pL_ok {ts : List Tok} {E : Int} {f d i p j q : Nat} {v : V} (h : pV ts E f (d + 1) i p = .ok v j q) : pL ts E (f + 1) d i p = (gL ts E f d j q false).map fun l => v :: l := by
  rw [pL, h]
  simp only
  unfold gL
  by_cases c1 : isM (tk ts E j) 93 = true
  · rw [if_pos c1, if_pos c1]; rfl
  · rw [if_neg c1, if_neg c1, if_neg (show ¬ (false = true) by decide)]
    by_cases c2 : isM (tk ts E j) 44 = true
    · rw [if_pos c2, if_pos c2]
    · rw [if_neg c2, if_neg c2]; rfl
/-- one part more: what was ahead, and it -/
theorem gL_step {ts : List Tok} {E : Int} {f d i p j q : Nat} {v : V} (acc : List V) (h : pV ts E f (d + 1) i p = .ok v j q) :
    (pL ts E (f + 1) d i p).map (fun l => acc ++ l) = (gL ts E f d j q false).map fun l => (acc ++ [v]) ++ l := by
  rw [pL_ok h, Rs.map_map]
  exact Rs.map_congr _ fun x => by simp
theorem pM_bad {ts : List Tok} {E : Int} {f d i p : Nat} {ns : List (List UInt8)} {a y : Int} (h4 : (tk ts E i).1 = 4) (hn : (tk ts E i).2.2.1 ∉ ns) (hc : isM (tk ts E (i + 1)) 58 = true)
    (h : pV ts E f (d + 1) (i + 1 + 1) p = .bad a y) : pM ts E (f + 1) d i p ns = .bad a y := by
  rw [pM, if_neg (by omega), if_neg hn, if_neg (by rw [hc]; decide), h]
theorem pM_ok {ts : List Tok} {E : Int} {f d i p j q : Nat} {ns : List (List UInt8)} {v : V} (h4 : (tk ts E i).1 = 4) (hn : (tk ts E i).2.2.1 ∉ ns) (hc : isM (tk ts E (i + 1)) 58 = true)
    (h : pV ts E f (d + 1) (i + 1 + 1) p = .ok v j q) : pM ts E (f + 1) d i p ns = (gM ts E f d j q (ns ++ [(tk ts E i).2.2.1]) false).map fun x => ((tk ts E i).2.2.1 :: x.1, v :: x.2) := by
  rw [pM, if_neg (by omega), if_neg hn, if_neg (by rw [hc]; decide), h]
  simp only
  unfold gM
  by_cases c1 : isM (tk ts E j) 125 = true
  · rw [if_pos c1, if_pos c1]; rfl
  · rw [if_neg c1, if_neg c1, if_neg (show ¬ (false = true) by decide)]
    by_cases c2 : isM (tk ts E j) 44 = true
    · rw [if_pos c2, if_pos c2]
    · rw [if_neg c2, if_neg c2]; rfl
theorem gM_step {ts : List Tok} {E : Int} {f d i p j q : Nat} {ns : List (List UInt8)} {v : V} (an : List (List UInt8)) (av : List V) (h4 : (tk ts E i).1 = 4) (hn : (tk ts E i).2.2.1 ∉ ns) (hc : isM (tk ts E (i + 1)) 58 = true)
    (h : pV ts E f (d + 1) (i + 1 + 1) p = .ok v j q) :
    (pM ts E (f + 1) d i p ns).map (fun x => (an ++ x.1, av ++ x.2)) = (gM ts E f d j q (ns ++ [(tk ts E i).2.2.1]) false).map fun x => ((an ++ [(tk ts E i).2.2.1]) ++ x.1, (av ++ [v]) ++ x.2) := by
  rw [pM_ok h4 hn hc h, Rs.map_map]
  exact Rs.map_congr _ fun x => by simp
theorem pM_syn {ts : List Tok} {E : Int} {f d i p : Nat} {ns : List (List UInt8)} (h4 : (tk ts E i).1 ≠ 4) : pM ts E (f + 1) d i p ns = .bad (tk ts E i).2.2.2 50 := by rw [pM, if_pos h4]
theorem pM_twice {ts : List Tok} {E : Int} {f d i p : Nat} {ns : List (List UInt8)} (h4 : (tk ts E i).1 = 4) (hn : (tk ts E i).2.2.1 ∈ ns) : pM ts E (f + 1) d i p ns = .bad (tk ts E i).2.2.2 52 := by
  rw [pM, if_neg (by omega), if_pos hn]
theorem pM_colon {ts : List Tok} {E : Int} {f d i p : Nat} {ns : List (List UInt8)} (h4 : (tk ts E i).1 = 4) (hn : (tk ts E i).2.2.1 ∉ ns) (hc : isM (tk ts E (i + 1)) 58 = false) : pM ts E (f + 1) d i p ns = .bad (tk ts E (i + 1)).2.2.2 50 := by
  rw [pM, if_neg (by omega), if_neg hn, if_pos hc]
/-- a value at a [, at a { -/
theorem pV_list {ts : List Tok} {E : Int} {f d i p : Nat} (h1 : badV (tk ts E i) = false) (h2 : ¬ 16 < d) (h3 : p ≠ 8192) (h4 : (tk ts E i).1 = 1) (h5 : (tk ts E i).2.2.1 = [91]) :
    pV ts E (f + 1) d i p = (gL ts E f d (i + 1) (p + 1) true).map lsV := by
  rw [pV, if_neg (by rw [h1]; decide), if_neg h2, if_neg h3, if_neg (by omega), if_neg (by omega), if_neg (by omega), if_pos h5]
  unfold gL
  by_cases c1 : isM (tk ts E (i + 1)) 93 = true
  · rw [if_pos c1, if_pos c1]; rfl
  · rw [if_neg c1, if_neg c1, if_pos rfl]
theorem pV_map {ts : List Tok} {E : Int} {f d i p : Nat} (h1 : badV (tk ts E i) = false) (h2 : ¬ 16 < d) (h3 : p ≠ 8192) (h4 : (tk ts E i).1 = 1) (h5 : (tk ts E i).2.2.1 ≠ [91]) :
    pV ts E (f + 1) d i p = (gM ts E f d (i + 1) (p + 1) [] true).map mpV := by
  rw [pV, if_neg (by rw [h1]; decide), if_neg h2, if_neg h3, if_neg (by omega), if_neg (by omega), if_neg (by omega), if_neg h5]
  unfold gM
  by_cases c1 : isM (tk ts E (i + 1)) 125 = true
  · rw [if_pos c1, if_pos c1]; rfl
  · rw [if_neg c1, if_neg c1, if_pos rfl]
end Go.Proofs.Ytbepnjgbkfidiaa.Re
