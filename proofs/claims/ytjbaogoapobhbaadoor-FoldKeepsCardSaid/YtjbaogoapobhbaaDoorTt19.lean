/- Merged: FoX. -/
import Derived.Test.YtjbaogoapobhbaaDoorTt18
import Derived.RangeFuncNested
import Derived.RangeFuncBound
import Derived.RangeFuncCalls
import Derived.RangeFuncLeaves
import Derived.Shelf.Abstract
import Derived.OwnWalkIn
import Derived.TacticsInMore
import Derived.LoopNIn
import Derived.LoopIn
import Derived.Sort.QuietIn
namespace Go.Proofs.YtjbaogoapobhbaaDoor.Fo
open Go.Proofs Go.RowKit Go.Shelf
open Go.Proofs.YtjbaogoapobhbaaDoor.Utf
attribute [local go_sem] Oper.semAt_some

abbrev T1 (L : List UInt8) := { l : List UInt8 // l.length < 4294967281 ∧ l ∈ tms L }
def encT {L : List UInt8} (x : T1 L) : Array Value := #[.string (strOf x.1)]
def vals {L : List UInt8} (l : List (T1 L)) : List (List UInt8) := l.map (·.1)
theorem grown_below {w w' : World} (h : Below w.heap.size w w') : w.grownBy w' none := ⟨h.os, h.tape, h.output, h.size, fun k hk _ => h.block k hk⟩

set_option maxRecDepth 100000 in
set_option maxHeartbeats 1000000 in
theorem terms_in (n : Nat) (s : ByteArray) (w : World) :
    CallsIn Fence.wide n Tryd.prog 26 #[.string s] w fun e w' => e = .returned (.func (.func 33) #[] #[.pointer (some ⟨w.heap.size, 0, none⟩)]) ∧ w' = w.alloc (.cells #[.string s] 9) := by
  refine callsIn_of_wp Tryd.func26 rfl trivial ?_ rfl
  simp only [Tryd.ntmps26, List.size_toArray, List.length_cons, List.length_nil, Nat.reduceAdd, Nat.reduceSub, Array.replicate_succ, Array.replicate_zero, List.push_toArray, List.append_toArray, List.nil_append, List.cons_append]
  gi_wp2
  go_ret
  exact ⟨rfl, rfl⟩

set_option maxRecDepth 100000 in
set_option maxHeartbeats 4000000 in
theorem terms1_in (n l Bs : Nat) (s : ByteArray) (hs : s.size < 4294967281) (J Jx : List (T1 s.data.toList) → World → Prop) (B : Nat) (hJ : AbidesFrom B J)
    (hY : ∀ pre x W, J pre W → pre.length < (tms s.data.toList).length → YieldAt Fence.wide (n - 1) Tryd.prog l (encT x) W fun e W' =>
      (e = .returned (.bool true) ∧ J (pre ++ [x]) W' ∧ True) ∨ (e = .returned (.bool false) ∧ Jx (pre ++ [x]) W'))
    (W : World) (hBs : W.cell? ⟨Bs, 0, none⟩ = some (.string s)) (h0 : J [] W) :
    CallsIn Fence.wide n Tryd.prog 33 #[.func (.yield l) #[] #[], .pointer (some ⟨Bs, 0, none⟩)] W fun e W' => (∃ v, e = .returned v) ∧
      ((∃ ys, vals ys = tms s.data.toList ∧ J ys W') ∨ (∃ pre, (∃ rest, tms s.data.toList = vals pre ++ rest) ∧ Jx pre W')) := by
  refine callsIn_of_wp Tryd.func33 rfl trivial ?_ rfl
  simp only [Tryd.ntmps33, List.size_toArray, List.length_cons, List.length_nil, Nat.reduceAdd, Nat.reduceSub, Array.replicate_succ, Array.replicate_zero, List.push_toArray, List.append_toArray, List.nil_append, List.cons_append]
  have HJ := Lib.hid hJ
  have HY := Lib.hid hY
  have H0 := Lib.hid h0
  have HN := Lib.hid (fun (r : ByteArray) (hr : r.size < 4294967281) W => next_any r W hr)
  have HSZ := Lib.hid (len_data s)
  clear hJ hY h0
  gi_wp2_with (gi_quiet (fail))
  have hB1 : Below W.heap.size W (W.drewN nq) := drw1 (Below.refl _ _) _
  have H1 := Lib.hid (HJ.out [] W (W.drewN nq) none H0.out (grown_below hB1) (fun r hr => by cases hr))
  generalize W.drewN nq = W1 at *
  gi_loopw [3, 4] (fun _ r wr => ∃ (pre : List (T1 s.data.toList)) (rest : List UInt8), r = .string (strOf rest) ∧ rest.length < 4294967281 ∧ Aside (tms s.data.toList = vals pre ++ trm rest 0 []) ∧ Aside (J pre wr)) (fun _ r _ => match r with | .string x => x.size | _ => 0)
  case atStart => exact ⟨[], s.data.toList, rfl, by rw [len_data]; exact hs, (show _ = _ from rfl), H1.out⟩
  case round =>
    obtain ⟨pre, rest, rfl, hr, htm, hj⟩ := hrel
    by_cases hne : rest = []
    · subst hne
      have e1 : (strOf []).toList = [] := by rw [strOf_list]
      gi_wp2
      go_end0
      exact ⟨⟨_, rfl⟩, .inl ⟨pre, by rw [htm.out, trm_end0, List.append_nil], hj.out⟩⟩
    · have e1 : ((strOf rest).toList == []) = false := by rw [strOf_list]; exact beq_eq_false_iff_ne.2 hne
      have e2 : (strOf rest).toList.isEmpty = false := by rw [strOf_list]; exact List.isEmpty_eq_false_iff.2 hne
      have HC := Lib.hid (HN.out (strOf rest) hr)
      rw [strOf_data] at HC
      have HT := Lib.hid (nxt_trm rest)
      have HL := Lib.hid (nxt_short rest hne)
      have l1 := nxt_len rest
      have l2 := nxt_len2 rest
      generalize (nxt rest).1 = tt at *
      generalize (nxt rest).2 = rr at *
      by_cases ht : tt = []
      · subst ht
        have f1 : (strOf []).toList = [] := by rw [strOf_list]
        gi_wp2
        refine ⟨trivial, fun h => (by cases h), ?_⟩
        refine (callsIn_wide.2 (HC.out _)).mono ?_
        rintro e w2 ⟨rfl, hb2⟩
        have H2 := Lib.hid (HJ.out pre wr w2 none hj.out (grown_below hb2) (fun r hr => by cases hr))
        clear hb2
        gi_wp2
        refine ⟨fun _ h => (by cases h), ?_⟩
        gi_wp2
        go_roundw
        case rel => exact ⟨pre, rr, rfl, by omega, (show _ = _ by rw [htm.out, HT.out]; rfl), H2.out⟩
        case measure => exact HL.out
      · have f1 : ((strOf tt).toList == []) = false := by rw [strOf_list]; exact beq_eq_false_iff_ne.2 ht
        have f2 : (strOf tt).toList.isEmpty = false := by rw [strOf_list]; exact List.isEmpty_eq_false_iff.2 ht
        obtain ⟨x, hx⟩ : ∃ x : T1 s.data.toList, x.1 = tt := ⟨⟨tt, by omega, by rw [htm.out, HT.out]; simp [one, ht]⟩, rfl⟩
        have HT2 := Lib.hid (show tms s.data.toList = vals (pre ++ [x]) ++ trm rr 0 [] by
          rw [htm.out, HT.out]
          unfold vals one
          rw [if_neg ht, List.map_append, List.append_assoc]
          simp [hx])
        have HP := Lib.hid (show pre.length < (tms s.data.toList).length by rw [HT2.out]; simp [vals])
        have HE := Lib.hid (show encT x = #[.string (strOf tt)] by rw [encT, hx])
        clear ht hx
        gi_wp2
        refine ⟨trivial, fun h => (by cases h), ?_⟩
        refine (callsIn_wide.2 (HC.out _)).mono ?_
        rintro e w2 ⟨rfl, hb2⟩
        have H2 := Lib.hid (HJ.out pre wr w2 none hj.out (grown_below hb2) (fun r hr => by cases hr))
        clear hb2
        obtain ⟨fn, tmps, assign, body, hy, hR⟩ := HY.out pre x w2 H2.out HP.out
        rw [HE.out] at hy
        gi_wp2
        refine ⟨fun h => (by cases h), ?_⟩
        refine hR.mono ?_
        rintro e w3 (⟨rfl, hJ3, -⟩ | ⟨rfl, hJx3⟩)
        · have HJ3 := Lib.hid hJ3
          clear hJ3 hR hy
          gi_wp2
          go_roundw
          case rel => exact ⟨pre ++ [x], rr, rfl, by omega, HT2.out, HJ3.out⟩
          case measure => exact HL.out
        · have HJ3 := Lib.hid hJx3
          clear hJx3 hR hy
          gi_wp2
          refine bodyPost_ret (results_none rfl _ _ _) rfl ?_
          exact ⟨⟨_, rfl⟩, .inr ⟨pre ++ [x], ⟨_, HT2.out⟩, HJ3.out⟩⟩
theorem terms_stops (n : Nat) (Bs : Nat) (s : ByteArray) (hs : s.size < 4294967281) (w : World) (hB : Bs < w.heap.size) (hBs : w.cell? ⟨Bs, 0, none⟩ = some (.string s)) :
    SeqStopsK Fence.wide n Tryd.prog 33 #[.pointer (some ⟨Bs, 0, none⟩)] (encT (L := s.data.toList)) (fun _ _ => True) (fun ys => vals ys = tms s.data.toList) (fun pre => ∃ rest, tms s.data.toList = vals pre ++ rest) (tms s.data.toList).length w := fun l J Jx W hW hJ _ hY h0 =>
  terms1_in n l Bs s hs J Jx W.heap.size hJ hY W ((hW.cell (p := ⟨Bs, 0, none⟩) hB).trans hBs) h0
end Go.Proofs.YtjbaogoapobhbaaDoor.Fo
