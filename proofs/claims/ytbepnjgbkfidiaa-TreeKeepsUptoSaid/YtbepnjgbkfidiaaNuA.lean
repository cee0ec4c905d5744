import Derived.Test.YtbepnjgbkfidiaaNuPl
import Derived.Deep.QuietTactic
import Derived.BigQuiet
import Derived.WalkLawsBesides
import Derived.WalkSpells
import Derived.IntWalk
/- Contracts of package nums' small calls: isDigit, digit, count, areWhole; the document's is. -/
namespace Go.Proofs.Ytbepnjgbkfidiaa.Nu
open Go.RowKit
open Go.Proofs.Ytbepnjgbkfidiaa.Utf

set_option maxRecDepth 100000 in
set_option maxHeartbeats 1000000 in
theorem digit_any (r : Int) (w : World) (h0 : -9 ≤ r) (h1 : r ≤ 9) : Calls Try.prog 61 #[.int .i64 r] w fun e w' => e = .returned (.int .u8 (48 + r.natAbs : Nat)) ∧ w = w' := by
  by_cases hr : r < 0
  · have hd : decide (r < 0) = true := decide_eq_true hr
    go_enter Try.func61, Try.ntmps61
    go_wp2
    go_ret
    exact ⟨ret_int (by omega), rfl⟩
  · have hd : decide (r < 0) = false := decide_eq_false hr
    go_enter Try.func61, Try.ntmps61
    go_wp2
    go_ret
    exact ⟨ret_int (by omega), rfl⟩

/-- what areWhole tells -/
def wholeL (l : List UInt8) (f e : Nat) : Bool := !decide (f = e ∨ (1 < e - f ∧ byt l f = 48) ∨ (byt l e = 46 ∨ byt l e = 101 ∨ byt l e = 69))
theorem wholeL_no {l : List UInt8} {f e : Nat} (h : f = e ∨ (1 < e - f ∧ byt l f = 48) ∨ (byt l e = 46 ∨ byt l e = 101 ∨ byt l e = 69)) : wholeL l f e = false := by rw [wholeL, decide_eq_true h]; rfl
theorem wholeL_yes {l : List UInt8} {f e : Nat} (h : ¬ (f = e ∨ (1 < e - f ∧ byt l f = 48) ∨ (byt l e = 46 ∨ byt l e = 101 ∨ byt l e = 69))) : wholeL l f e = true := by rw [wholeL, decide_eq_false h]; rfl

end Go.Proofs.Ytbepnjgbkfidiaa.Nu
/- Contract of package nums' count. -/
namespace Go.Proofs.Ytbepnjgbkfidiaa.Nu
open Go.RowKit
open Go.Proofs.Ytbepnjgbkfidiaa.Utf

/-- the number so far, no greater than what stands for all that are too great -/
def satN (m : Nat) : Nat := if m ≤ 9007199254740992 then m else 9007199254740992
theorem satN_le (m : Nat) : satN m ≤ 9007199254740992 := by unfold satN; split <;> omega
theorem satN_step (m d : Nat) : satN (m * 10 + d) = if satN m * 10 + d ≤ 9007199254740992 then satN m * 10 + d else 9007199254740992 := by
  unfold satN
  by_cases h : m ≤ 9007199254740992
  · rw [if_pos h]
  · rw [if_neg h, if_neg (by omega), if_neg (by omega)]
theorem satN_full (m : Nat) : satN m = 9007199254740992 ↔ 9007199254740991 < m := by unfold satN; split <;> omega
theorem satN_id {m : Nat} (h : ¬ 9007199254740991 < m) : satN m = m := by unfold satN; rw [if_pos (by omega)]

/-- what Read tells of a place within the text -/
theorem rdN_eq (l : List UInt8) (p : Nat) : rdN l p = if satN (accD l (fstN l p) (runL l (fstN l p))) = 9007199254740992 ∨ wholeL l (fstN l p) (fstN l p + runL l (fstN l p)) = false then (0, (p : Int), 30)
    else ((if byt l p = 45 then -(accD l (fstN l p) (runL l (fstN l p)) : Int) else (accD l (fstN l p) (runL l (fstN l p)) : Int)), ((fstN l p + runL l (fstN l p) : Nat) : Int), 0) := by
  have hm : maxN = 9007199254740991 := rfl
  unfold rdN
  generalize fstN l p = f
  generalize runL l f = r
  have : badN l f r ↔ (satN (accD l f r) = 9007199254740992 ∨ wholeL l f (f + r) = false) := by
    rw [satN_full]
    unfold badN wholeL
    rw [Bool.not_eq_false', decide_eq_true_eq, Nat.add_sub_cancel_left]
    omega
  by_cases h : badN l f r
  · rw [if_pos h, if_pos (this.1 h)]
  · rw [if_neg h, if_neg (fun h2 => h (this.2 h2))]

theorem retI3 {j k m : IntKind} {a a' b b' c c' : Int} (h1 : a = a') (h2 : b = b') (h3 : c = c') : Ending.returned (.tuple #[.int j a, .int k b, .int m c]) = .returned (.tuple #[.int j a', .int k b', .int m c']) := by rw [h1, h2, h3]
end Go.Proofs.Ytbepnjgbkfidiaa.Nu
