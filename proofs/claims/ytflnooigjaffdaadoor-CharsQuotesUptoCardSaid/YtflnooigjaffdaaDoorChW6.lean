import Derived.Test.YtflnooigjaffdaaDoorChW0
import Derived.Test.YtflnooigjaffdaaDoorChR4
import Derived.Test.YtflnooigjaffdaaDoorChTab
/- The walk of the law CharsQuotes. -/
namespace Go.Proofs.YtflnooigjaffdaaDoor.Ch
open Go.RowKit
open Go.Proofs.YtflnooigjaffdaaDoor.Utf

set_option maxHeartbeats 1000000 in
theorem quotes_walk (s : ByteArray) (w : World) (hs : s.size ≤ 1048576) (ht : Tab w) :
    Calls Tryd.prog 3 #[.string s] w fun e w' => e = .returned (.bool true) ∧ Below w.heap.size w w' := by
  have c1 := Quote_fit s w (by omega)
  have c2 := fun w ht => rQuote_any s w hs ht
  generalize quoteR s.data.toList = r at c1 c2
  obtain ⟨t, b⟩ := r
  unfold GivesQuote at c1 c2
  simp only at c1 c2
  have C1 := Lib.hid c1; clear c1
  have C2 := Lib.hid c2; clear c2
  have HT := Lib.hid ht; clear ht
  have hB := HT.out.1
  go_enter Tryd.func3, Tryd.ntmps3
  go_wp2_with fail
  refine C1.out.mono ?_
  rintro r w1 ⟨rfl, hb1⟩
  go_wp2_with fail
  refine (C2.out w1 (HT.out.below hb1 hB hb1.size)).mono ?_
  rintro r w2 ⟨rfl, hb2⟩
  go_wp2_with fail
  refine (awake_any w2).mono ?_
  rintro r w3 ⟨rfl, hb3⟩
  go_wp2_with fail
  go_ret
  have s1 := hb1.size
  have s2 := hb2.size
  exact ⟨rfl, hb1.trans ((hb2.mono s1).trans (hb3.mono (by omega)))⟩
end Go.Proofs.YtflnooigjaffdaaDoor.Ch
