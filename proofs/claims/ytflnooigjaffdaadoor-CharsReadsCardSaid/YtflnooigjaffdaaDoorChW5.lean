import Derived.Test.YtflnooigjaffdaaDoorChW0
import Derived.Test.YtflnooigjaffdaaDoorChR3
import Derived.Test.YtflnooigjaffdaaDoorChTab
/- The walk of the law CharsReads. -/
namespace Go.Proofs.YtflnooigjaffdaaDoor.Ch
open Go.RowKit
open Go.Proofs.YtflnooigjaffdaaDoor.Utf

set_option maxHeartbeats 1000000 in
theorem reads_walk (s : ByteArray) (a : Int) (w : World) (hs : s.size ≤ reachBytes) (_ha : (Lit.int .i64 a).wf = true) (ht : Tab w) :
    Calls Tryd.prog 4 #[.string s, .int .i64 a] w fun e w' => e = .returned (.bool true) ∧ Below w.heap.size w w' := by
  unfold reachBytes at hs
  have c1 := Read_fit s a w (by omega)
  have c2 := fun w ht => rRead_any s a w (by omega) ht
  generalize readS s.data.toList a = r at c1 c2
  obtain ⟨t, n, e⟩ := r
  unfold GivesRead at c1 c2
  simp only at c1 c2
  have C1 := Lib.hid c1; clear c1
  have C2 := Lib.hid c2; clear c2
  have HT := Lib.hid ht; clear ht
  have hB := HT.out.1
  go_enter Tryd.func4, Tryd.ntmps4
  go_wp2_with fail
  refine C1.out.mono ?_
  rintro r w1 ⟨rfl, hb1⟩
  go_wp2_with fail
  refine (C2.out w1 (HT.out.below hb1 hB hb1.size)).mono ?_
  rintro r w2 ⟨rfl, hb2⟩
  go_wp2_with fail
  refine (awake_any w2).mono ?_
  rintro r w3 ⟨rfl, hb3⟩
  go_wp2_with fail
  go_ret
  have s1 := hb1.size
  have s2 := hb2.size
  exact ⟨rfl, hb1.trans ((hb2.mono s1).trans (hb3.mono (by omega)))⟩
end Go.Proofs.YtflnooigjaffdaaDoor.Ch
