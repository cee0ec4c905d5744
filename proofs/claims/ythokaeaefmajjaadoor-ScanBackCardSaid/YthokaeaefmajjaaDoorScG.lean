import Derived.Test.YthokaeaefmajjaaDoorScF
/- Contract of the awake of layer 4's law. -/
namespace Go.Proofs.YthokaeaefmajjaaDoor.Sc
open Go.RowKit
open Go.Proofs.YthokaeaefmajjaaDoor.Utf

theorem aw1 : scnS [123, 34, 97, 34, 58, 45, 49, 125] = ([(1, 0, [123], 0), (4, 0, [97], 1), (1, 0, [58], 4), (3, -1, [], 5), (1, 0, [125], 7)], 0, 0) := by decide +kernel
theorem aw2 : scnS [110, 117, 108, 108, 115] = ([], 0, 40) := by decide +kernel
theorem aw3 : scnS [91, 49, 46, 53, 93] = ([], 1, 30) := by decide +kernel
theorem tokens_closed (l : List UInt8) (r : List Tok × Int × Int) (w : World) (hl : l.length ≤ 9223372036854775807) (h : scnS l = r) :
    Calls Tryd.prog 5 #[.string ⟨l.toArray⟩] w (GivesToks r w) := by
  have := Tokens_any ⟨l.toArray⟩ w hl
  rw [show (ByteArray.mk l.toArray).data.toList = l from rfl, h] at this
  exact this

set_option maxHeartbeats 1000000 in
theorem awake_any (w : World) : Calls Tryd.prog 7 #[] w (Gives (.bool true) w) := by
  have he1 := strOf_list [97]
  have he2 := strOf_list []
  go_enter Tryd.func7, Tryd.ntmps7
  go_wp2_with fail
  refine (tokens_closed [123, 34, 97, 34, 58, 45, 49, 125] _ _ (by decide) aw1).mono ?_
  rintro e w1 ⟨v1, rfl, hown1, hb1⟩
  go_wp2_with fail
  refine (tokens_closed [110, 117, 108, 108, 115] _ _ (by decide) aw2).mono ?_
  rintro e w2 ⟨v2, rfl, hown2, hb2⟩
  go_wp2_with fail
  refine (tokens_closed [91, 49, 46, 53, 93] _ _ (by decide) aw3).mono ?_
  rintro e w3 ⟨v3, rfl, hown3, hb3⟩
  have s1 := hb1.size
  have s2 := hb2.size
  have s3 := hb3.size
  have hr := ((RdT.of_own hown1).below hb2 (Nat.le_refl _)).below hb3 s2
  obtain ⟨g, c, rfl, _, a0, a1, a2, a3⟩ := hr.at_ 1 (by decide)
  obtain ⟨g', c', hg, _, b0, b1, b2, b3⟩ := hr.at_ 3 (by decide)
  injection hg with hg1 _ _
  injection hg1 with hg1
  injection hg1 with hg1 _ _
  subst hg1
  clear hown1 hown2 hown3 hr
  have B := hb1.trans ((hb2.mono s1).trans (hb3.mono (by omega)))
  clear hb1 hb2 hb3
  go_wp2_with fail
  go_ret
  exact ⟨rfl, B⟩
end Go.Proofs.YthokaeaefmajjaaDoor.Sc
