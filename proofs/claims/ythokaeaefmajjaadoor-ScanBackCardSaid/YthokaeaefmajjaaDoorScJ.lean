import Derived.Test.YthokaeaefmajjaaDoorScI
import Derived.Test.YthokaeaefmajjaaDoorChTab
/- Walk of ScanReads. -/
namespace Go.Proofs.YthokaeaefmajjaaDoor.Sc
open Go.RowKit
open Go.Proofs.YthokaeaefmajjaaDoor.Utf

set_option maxHeartbeats 2000000 in
theorem reads_walk (s : ByteArray) (w : World) (hs : s.size ≤ reachBytes) (ht : Ch.Tab w) :
    Calls Tryd.prog 3 #[.string s] w fun e w' => e = .returned (.bool true) ∧ Below w.heap.size w w' := by
  unfold reachBytes at hs
  have HT1 := fun w => Tokens_any s w (by omega)
  have HT2 := fun w ht => rTokens_any s w (by omega) ht
  have hsz : (scnS s.data.toList).1.length ≤ 65536 := by
    by_cases he : (scnS s.data.toList).2.2 = 0
    · obtain ⟨h1, _, h3, _⟩ := scnS_Scan he
      have := h3.le
      rw [len_data] at this h1
      omega
    · rw [(scnS_bad he).1]; simp
  rcases hR : scnS s.data.toList with ⟨ts, at_, er⟩
  rw [hR] at HT1 HT2 hsz
  simp only at hsz
  clear hR
  have H1 := Lib.hid HT1; clear HT1
  have H2 := Lib.hid HT2; clear HT2
  have HT := Lib.hid ht; clear ht
  have hB := HT.out.1
  go_enter Tryd.func3, Tryd.ntmps3
  go_wp2_with fail
  refine (H1.out _).mono ?_
  rintro e w1 ⟨v1, rfl, hown1, hb1⟩
  go_wp2_with fail
  refine (H2.out w1 (HT.out.below hb1 hB hb1.size)).mono ?_
  rintro e w2 ⟨v2, rfl, hown2, hb2⟩
  go_wp2_with fail
  refine (awake_any _).mono ?_
  rintro e w3 ⟨rfl, hb3⟩
  have s1 := hb1.size
  have s2 := hb2.size
  have s3 := hb3.size
  have r1 := (((RdT.of_own hown1).below hb2 (Nat.le_refl _)).below hb3 s2).more (show w1.heap.size ≤ w3.heap.size by omega)
  have r2 := ((RdT.of_own hown2).below hb3 (Nat.le_refl _)).more s3
  clear hown1 hown2
  go_wp2_with fail
  refine (Same_any _ _ _ _ true _ r1 r2 (by omega)).mono ?_
  rintro e w4 ⟨⟨b, rfl, hb⟩, hb4⟩
  have : b = true := hb.2 (sameL_refl true ts)
  subst this
  go_wp2_with fail
  go_ret
  exact ⟨rfl, hb1.trans ((hb2.mono s1).trans ((hb3.mono (by omega)).trans (hb4.mono (by omega))))⟩
end Go.Proofs.YthokaeaefmajjaaDoor.Sc
