/- Merged: PoW2. -/
import Derived.Test.YtmfpaoincgfjmaaTt34
import Derived.Test.YtmfpaoincgfjmaaTt28
import Derived.Test.YtmfpaoincgfjmaaTt23
namespace Go.Proofs.Ytmfpaoincgfjmaa.Po
open Go.Proofs Go.RowKit
open Go.Proofs.Ytmfpaoincgfjmaa.Utf
open Go.Proofs.Ytmfpaoincgfjmaa.Sc
open Go.Proofs.Ytmfpaoincgfjmaa.Re
open Go.Proofs.Ytmfpaoincgfjmaa.Tr

theorem plen_sum : ∀ ps : List (List UInt8), plen ps ≤ 2 * (ps.map fun q => q.length + 1).sum
  | [] => by rw [plen]; simp
  | p :: r => by
    have := plen_sum r
    rw [plen, List.map_cons, List.sum_cons]
    omega
set_option maxRecDepth 100000 in
set_option maxHeartbeats 1000000 in
theorem writes_walk (v : Value) (ps : List (List UInt8)) (w : World) (hv : RdS w w.heap.size v ps) (hb : (ps.map fun q => q.length + 1).sum ≤ 1048576) :
    Calls Try.prog 4 #[v] w fun e w' => e = .returned (.bool true) ∧ Below w.heap.size w w' := by
  have hpl := plen_sum ps
  have hln := len_plen ps
  have htl := ptxt_len ps
  have HTX := Lib.hid (Text_any v ps w hv.rd (by omega))
  have HRT := Lib.hid (fun (W : World) (hW : Below w.heap.size w W) => rText_any v ps W (hv.below hW hW.size).rd (by omega))
  have HPA := Lib.hid (fun (W : World) => Parts_any (strOf (ptxt ps)) (by rw [strOf_size]; omega) W)
  rw [strOf_data, prts_ptxt] at HPA
  have HSM := Lib.hid (fun (W : World) (l : Value) (hW : Below w.heap.size w W) (hl : RdS W W.heap.size l ps) => SameParts_any l v ps ps W hl.rd (hv.below hW hW.size).rd (by omega))
  clear hpl hln htl hb hv
  generalize strOf (ptxt ps) = X at *
  have hxx : (X.toList == X.toList) = true := beq_self_eq_true _
  go_enter Try.func4, Try.ntmps4
  go_wp2_with fail
  refine HTX.out.mono ?_
  rintro e w1 ⟨rfl, hb1⟩
  have HB1 := Lib.hid hb1
  clear hb1
  go_wp2_with fail
  refine (HPA.out _).mono ?_
  rintro e w2 ⟨h2, hb2⟩
  rcases h2 with ⟨qs, l, e2, rfl, hown⟩ | ⟨e2, _⟩
  · injection e2 with e2
    subst e2
    have HB2 := Lib.hid (HB1.out.trans (hb2.mono HB1.out.size))
    have HL := Lib.hid (RdS.of_own hown)
    clear hb2 hown
    go_wp2_with fail
    refine (awake_any8 _).mono ?_
    rintro e w3 ⟨rfl, hb3⟩
    have HB3 := Lib.hid (HB2.out.trans (hb3.mono HB2.out.size))
    have HL3 := Lib.hid (HL.out.below hb3 hb3.size)
    clear hb3
    go_wp2_with fail
    refine (HRT.out _ HB3.out).mono ?_
    rintro e w4 ⟨rfl, hb4⟩
    have HB4 := Lib.hid (HB3.out.trans (hb4.mono HB3.out.size))
    have HL4 := Lib.hid (HL3.out.below hb4 hb4.size)
    clear hb4
    go_wp2_with fail
    refine (HSM.out _ l HB4.out HL4.out).mono ?_
    rintro e w5 ⟨⟨x, rfl, hx⟩, hb5⟩
    obtain rfl : x = true := by simpa using hx
    have HB5 := Lib.hid (HB4.out.trans (hb5.mono HB4.out.size))
    clear hb5 hx
    go_wp2
    go_ret
    exact ⟨rfl, HB5.out⟩
  · cases e2
end Go.Proofs.Ytmfpaoincgfjmaa.Po
