import Derived.Test.YtflnooigjaffdaaChVll
import Derived.Test.YtflnooigjaffdaaChVlh
import Derived.Test.YtflnooigjaffdaaChVhl
import Derived.Test.YtflnooigjaffdaaChVhh
/- The walk of the law CharsPairs. -/
namespace Go.Proofs.Ytflnooigjaffdaa.Ch
open Go.RowKit
open Go.Proofs.Ytflnooigjaffdaa.Utf

theorem pairs_walk (a b : Int) (w : World) (ha : (Lit.int .u16 a).wf = true) (hb : (Lit.int .u16 b).wf = true) :
    Calls Try.prog 5 #[.int .u16 a, .int .u16 b] w fun e w' => e = .returned (.bool true) ∧ Below w.heap.size w w' := by
  have ⟨a0, a1⟩ : 0 ≤ a ∧ a ≤ 65535 := by simp [Lit.wf, IntKind.min, IntKind.max, IntKind.bits, IntKind.signed] at ha; omega
  have ⟨b0, b1⟩ : 0 ≤ b ∧ b ≤ 65535 := by simp [Lit.wf, IntKind.min, IntKind.max, IntKind.bits, IntKind.signed] at hb; omega
  clear ha hb
  by_cases x : a < 55296 ∨ 57343 < a
  · by_cases y : b < 55296 ∨ 57343 < b
    · rcases x with x | x <;> rcases y with y | y
      · exact pairs_ll a b w a0 a1 b0 b1 x y
      · exact pairs_lh a b w a0 a1 b0 b1 x y
      · exact pairs_hl a b w a0 a1 b0 b1 x y
      · exact pairs_hh a b w a0 a1 b0 b1 x y
    · exact pairs_second a b w a0 a1 b0 b1 x (by omega) (by omega)
  · by_cases h : a ≤ 56319 ∧ 56320 ≤ b ∧ b ≤ 57343
    · exact pairs_both a b w a0 a1 b0 b1 (by omega) h.1 h.2.1 h.2.2
    · refine pairs_first a b w a0 a1 b0 b1 (by omega) (by omega) ?_
      simp [isUp, isLo]
      omega
end Go.Proofs.Ytflnooigjaffdaa.Ch
