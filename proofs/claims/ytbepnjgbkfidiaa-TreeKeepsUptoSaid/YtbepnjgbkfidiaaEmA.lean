import Derived.Test.YtbepnjgbkfidiaaEmPl
import Derived.Test.YtbepnjgbkfidiaaRaMem
import Derived.Test.YtbepnjgbkfidiaaUtfA
import Derived.BigQuiet
import Derived.IntWalk
import Derived.Deep.RegionHeld3
import Derived.Maps.OwnSet
/- Contracts of package emit: whether a value is right by itself. -/
namespace Go.Proofs.Ytbepnjgbkfidiaa.Em
open Go.RowKit Go.Maps
open Go.Proofs.Ytbepnjgbkfidiaa.Utf
open Go.Proofs.Ytbepnjgbkfidiaa.Sc
open Go.Proofs.Ytbepnjgbkfidiaa.Re

/-- what a call hands back: whether something is so; what was there stays -/
def Tells (q : Prop) (w : World) (e : Ending) (w' : World) : Prop := (∃ b, e = .returned (.bool b) ∧ (b = true ↔ q)) ∧ Below w.heap.size w w'
/-- has a value something in what its kind doesn't name? -/
def oth (k n : Int) (S : ByteArray) (ll lm : Nat) : Prop := (n ≠ 0 ∧ k ≠ 2 ∧ k ≠ 3) ∨ (S.toList ≠ [] ∧ k ≠ 4) ∨ (ll ≠ 0 ∧ k ≠ 5) ∨ (lm ≠ 0 ∧ k ≠ 6)

set_option maxRecDepth 100000 in
set_option maxHeartbeats 4000000 in
theorem hasOthers_any (k n : Int) (S : ByteArray) (A A2 : Option Addr) (ll c lm c2 : Nat) (w : World) :
    Calls Try.prog 45 #[.agg #[.int .i64 k, .int .i64 n, .string S, .slice A ll c, .slice A2 lm c2]] w (Tells (oth k n S ll lm) w) := by
  go_enter Try.func45, Try.ntmps45
  go_wp2_with fail
  all_goals
    go_ret
    refine ⟨⟨_, rfl, ?_⟩, (Below.refl _ _).alloc (Nat.le_refl _) _⟩
    unfold oth
    simp_all
    try omega

set_option maxRecDepth 100000 in
set_option maxHeartbeats 4000000 in
theorem areBytes_any (s : ByteArray) (w : World) (hs : s.size ≤ maxLen) : Calls Try.prog 46 #[.string s] w fun e w' => (∃ b, e = .returned (.bool b) ∧ (b = true ↔ okS s.data.toList)) ∧ w = w' := by
  have hb := Bad_any s w hs
  have hi : ((ptsL s.data.toList).2 : Int) = (s.size : Int) ↔ okS s.data.toList := by unfold okS; rw [len_data]; omega
  generalize ((ptsL s.data.toList).2 : Int) = x at *
  have HB := Lib.hid hb; clear hb
  go_enter Try.func46, Try.ntmps46
  go_wp2_with (go_at_call 57; refine HB.out.mono ?_; rintro e w' ⟨rfl, rfl⟩)
  all_goals
    go_ret
    exact ⟨⟨_, rfl, by rw [← hi]; simp⟩, rfl⟩

/-! ### the names of a map's members -/
def nK (n : List UInt8) : Lit := .string n
def nD (ns : List (List UInt8)) : DataW Unit := setOf (.agg []) (ns.map nK)
theorem nD_snoc (ns : List (List UInt8)) (n : List UInt8) : nD (ns ++ [n]) = (nD ns).put (nK n) (.agg []) := by
  unfold nD; rw [List.map_append]; exact setOf_snoc _ _ _
theorem nD_has (ns : List (List UInt8)) (n : List UInt8) : Maps.has (nD ns) (nK n) = decide (n ∈ ns) := by
  unfold nD
  rw [has_setOf _ _ _ (fun x hx => by
    obtain ⟨y, _, rfl⟩ := List.mem_map.1 hx
    trivial)]
  rw [List.any_map, Bool.eq_iff_iff, List.any_eq_true, decide_eq_true_iff]
  constructor
  · rintro ⟨x, h1, h2⟩
    have : x = n := by simpa [nK, Lit.sameKey] using h2
    rw [← this]; exact h1
  · intro h
    exact ⟨n, h, by simp [nK, Lit.sameKey]⟩
theorem keyS : Keyed Try.prog 9 := string_keyed Try.underlying9
theorem zeroU (w : World) : (zeroValue 87).run Try.prog w = .ok (.agg #[]) w := by kernel_rfl
/-- a set of names in memory -/
def Nms (w : World) (mb n : Nat) (ns : List (List UInt8)) : Prop := w.ownsMap Try.prog 9 (unitElem (H := Unit)) mb n (nD ns)
end Go.Proofs.Ytbepnjgbkfidiaa.Em
