/- Merged: EmO. -/
import Derived.Test.YtmfpaoincgfjmaaGreatTt11
import Derived.Test.YtmfpaoincgfjmaaGreatTt6
import Derived.Test.YtmfpaoincgfjmaaGreatRows
import Derived.WalkArith
namespace Go.Proofs.YtmfpaoincgfjmaaGreat.Em
open Go.RowKit
open Go.ChangeShapes Go.WideShapes Go.Deep
open Go.Proofs.YtmfpaoincgfjmaaGreat.Utf
open Go.Proofs.YtmfpaoincgfjmaaGreat.Sc
open Go.Proofs.YtmfpaoincgfjmaaGreat.Re

theorem szA_more {B C : Nat} (h : B ≤ C) : ∀ v : V, szA B v → szA C v := by
  intro v
  exact V.rec (motive_1 := fun v => szA B v → szA C v) (motive_2 := fun l => szAL B l → szAL C l)
    (fun k n s l ns ms h1 h2 hz => by
      rw [szA] at hz ⊢
      exact ⟨hz.1, hz.2.1, by omega, by omega, by omega, fun nm hn => by have := hz.2.2.2.2.2.1 nm hn; omega, h1 hz.2.2.2.2.2.2.1, h2 hz.2.2.2.2.2.2.2⟩)
    (fun _ => by rw [szAL]; trivial)
    (fun v r h1 h2 hz => by rw [szAL] at hz ⊢; exact ⟨h1 hz.1, h2 hz.2⟩) v

section
variable {H : Type} {enc : TypeId × Value → H} {w : World} {base : Nat} {sp : Nat → Bool} {hd : Bool}

end
end Go.Proofs.YtmfpaoincgfjmaaGreat.Em
