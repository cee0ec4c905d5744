import Derived.Test.YthokaeaefmajjaaDoorNuPl2
import Derived.Deep.QuietTactic
import Derived.BigQuiet
import Derived.WalkLawsBesides
import Derived.WalkSpells
import Derived.IntWalk
/- Contracts of package nums' small calls: isDigit, digit, count, areWhole; the document's is. -/
namespace Go.Proofs.YthokaeaefmajjaaDoor.Nu
open Go.RowKit
open Go.Proofs.YthokaeaefmajjaaDoor.Utf

theorem isDigit_any (b : Int) (w : World) : Calls Tryd.prog 46 #[.int .u8 b] w fun e w' => e = .returned (.bool (isD b)) ∧ w = w' := by
  go_enter Tryd.func46, Tryd.ntmps46
  go_wp2
  all_goals
    go_ret
    exact ⟨ret_bool (by rw [Bool.eq_iff_iff]; simp [isD]; omega), rfl⟩
theorem is_any (b : Int) (w : World) : Calls Tryd.prog 24 #[.int .u8 b] w fun e w' => e = .returned (.bool (isD b)) ∧ w = w' := by
  go_enter Tryd.func24, Tryd.ntmps24
  go_wp2
  all_goals
    go_ret
    exact ⟨ret_bool (by rw [Bool.eq_iff_iff]; simp [isD]; omega), rfl⟩

/-- what areWhole tells -/
def wholeL (l : List UInt8) (f e : Nat) : Bool := !decide (f = e ∨ (1 < e - f ∧ byt l f = 48) ∨ (byt l e = 46 ∨ byt l e = 101 ∨ byt l e = 69))
theorem wholeL_no {l : List UInt8} {f e : Nat} (h : f = e ∨ (1 < e - f ∧ byt l f = 48) ∨ (byt l e = 46 ∨ byt l e = 101 ∨ byt l e = 69)) : wholeL l f e = false := by rw [wholeL, decide_eq_true h]; rfl
theorem wholeL_yes {l : List UInt8} {f e : Nat} (h : ¬ (f = e ∨ (1 < e - f ∧ byt l f = 48) ∨ (byt l e = 46 ∨ byt l e = 101 ∨ byt l e = 69))) : wholeL l f e = true := by rw [wholeL, decide_eq_false h]; rfl

set_option maxHeartbeats 1000000 in
theorem areWhole_any (s : ByteArray) (f e : Nat) (w : World) (hs : s.size ≤ 9223372036854775807) (hfe : f ≤ e) (he : e ≤ s.size) :
    Calls Tryd.prog 40 #[.string s, .int .i64 f, .int .i64 e] w fun r w' => r = .returned (.bool (wholeL s.data.toList f e)) ∧ w = w' := by
  by_cases h0 : f = e
  · rw [wholeL_no (.inl h0)]
    subst h0
    go_enter Tryd.func40, Tryd.ntmps40
    go_wp2
    go_ret
    exact ⟨rfl, rfl⟩
  · have hf : f < s.size := by omega
    have h0b : decide ((f : Int) = (e : Int)) = false := decide_eq_false (by omega)
    have h0c : decide (f = e) = false := decide_eq_false (by omega)
    have g := byt_get s f hf
    have hx : IntKind.i64.wrap ((e : Int) - (f : Int)) = (e : Int) - (f : Int) := IntWalk.i64_in _ (by omega)
    by_cases hA : byt s.data.toList f = 48
    · have hAb : decide ((s[f].toNat : Int) = 48) = true := decide_eq_true (by omega)
      have hAc : (s[f].toNat : Int) = 48 := by omega
      by_cases hB : 1 < e - f
      · rw [wholeL_no (.inr (.inl ⟨hB, hA⟩))]
        have hBb : decide (1 < (e : Int) - (f : Int)) = true := decide_eq_true (by omega)
        clear g hA
        go_enter Tryd.func40, Tryd.ntmps40
        go_wp2
        go_ret
        exact ⟨rfl, rfl⟩
      · have hBb : decide (1 < (e : Int) - (f : Int)) = false := decide_eq_false (by omega)
        by_cases h1 : e = s.size
        · rw [wholeL_yes (by rw [byt_out (k := e) (by rw [len_data]; omega)]; omega)]
          have h1b : decide ((e : Int) = (s.size : Int)) = true := decide_eq_true (by omega)
          have h1c : decide (e = s.size) = true := decide_eq_true (by omega)
          clear g hA
          subst h1
          go_enter Tryd.func40, Tryd.ntmps40
          go_wp2
          go_ret
          exact ⟨rfl, rfl⟩
        · have h1b : decide ((e : Int) = (s.size : Int)) = false := decide_eq_false (by omega)
          have h1c : decide (e = s.size) = false := decide_eq_false (by omega)
          have g2 := byt_get s e (by omega)
          unfold wholeL
          rw [g2]
          clear g hA
          go_enter Tryd.func40, Tryd.ntmps40
          go_wp2
          all_goals
            go_ret
            exact ⟨ret_bool (by simp only [beq_iff_eq, beq_eq_false_iff_ne, ne_eq] at *; simp; omega), rfl⟩
    · have hAb : decide ((s[f].toNat : Int) = 48) = false := decide_eq_false (by omega)
      have hAc : ¬ (s[f].toNat : Int) = 48 := by omega
      by_cases h1 : e = s.size
      · rw [wholeL_yes (by rw [byt_out (k := e) (by rw [len_data]; omega)]; omega)]
        have h1b : decide ((e : Int) = (s.size : Int)) = true := decide_eq_true (by omega)
        have h1c : decide (e = s.size) = true := decide_eq_true (by omega)
        clear g hA
        subst h1
        go_enter Tryd.func40, Tryd.ntmps40
        go_wp2
        go_ret
        exact ⟨rfl, rfl⟩
      · have h1b : decide ((e : Int) = (s.size : Int)) = false := decide_eq_false (by omega)
        have h1c : decide (e = s.size) = false := decide_eq_false (by omega)
        have g2 := byt_get s e (by omega)
        unfold wholeL
        rw [g2, g]
        clear g hA
        go_enter Tryd.func40, Tryd.ntmps40
        go_wp2
        all_goals
          go_ret
          exact ⟨ret_bool (by simp only [beq_iff_eq, beq_eq_false_iff_ne, ne_eq] at *; simp; omega), rfl⟩
end Go.Proofs.YthokaeaefmajjaaDoor.Nu
