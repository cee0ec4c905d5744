import Derived.Test.YtbepnjgbkfidiaaTtTsK
/- Get, With, Without as the law of TreeGets meets them. -/
namespace Go.Proofs.Ytbepnjgbkfidiaa.Tr
open Go.Proofs Go.RowKit Go.Lib
open Go.Proofs.Ytbepnjgbkfidiaa.Utf
open Go.Proofs.Ytbepnjgbkfidiaa.Sc
open Go.Proofs.Ytbepnjgbkfidiaa.Re

theorem get_lit (v : V) (cs : List Value) (nm : List UInt8) (B : Bool) (hB : decide (nm ∈ inN v) = B) (w : World) (hv : RdA w 0 w.heap.size v cs) (hz : szA 4611686018427387904 v) :
    Calls Try.prog 10 #[.agg cs.toArray, .string (strOf nm)] w fun e w' => (∃ ca : List Value, e = .returned (.tuple #[.agg ca.toArray, .bool B]) ∧ RdA w 0 w.heap.size (getV v nm) ca) ∧ Below w.heap.size w w' := by
  refine (Get_any v cs nm w hv hz).mono ?_
  rintro e w' ⟨⟨ca, e1, h⟩, hb⟩
  rw [hB] at e1
  exact ⟨⟨ca, e1, h⟩, hb⟩
def GivesMap (u : V) (w : World) (e : Ending) (w' : World) : Prop :=
  (∃ A n c, e = .returned (.agg #[.int .i64 6, .int .i64 0, .string ⟨#[]⟩, .slice none 0 0, .slice A n c]) ∧ RdA w' 0 w'.heap.size u [.int .i64 6, .int .i64 0, .string ⟨#[]⟩, .slice none 0 0, .slice A n c]) ∧ Below w.heap.size w w'
theorem gives_map {ns : List (List UInt8)} {ms : List V} {w : World} {e : Ending} {w' : World} (h : GivesM ns ms w e w') : GivesMap (mpV (ns, ms)) w e w' := by
  obtain ⟨⟨A, c, e1, hn, hk⟩, hb⟩ := h
  exact ⟨⟨A, _, c, e1, GivesM.rd hn hb.size hk⟩, hb⟩
theorem with_map (v x : V) (cs cx : List Value) (nm : List UInt8) (w : World) (hv : RdA w 0 w.heap.size v cs) (hx : RdA w 0 w.heap.size x cx) (hz : (inM v).length < 1466015503701) :
    Calls Try.prog 13 #[.agg cs.toArray, .string (strOf nm), .agg cx.toArray] w (GivesMap (mpV (withN v nm, withM v nm x)) w) :=
  (With_any v x cs cx nm w hv hx hz).mono fun _ _ h => gives_map h
theorem wo_map (v : V) (cs : List Value) (nm : List UInt8) (w : World) (hv : RdA w 0 w.heap.size v cs) (hz : (inM v).length < 1466015503701) :
    Calls Try.prog 15 #[.agg cs.toArray, .string (strOf nm)] w (GivesMap (mpV (woN v nm, woM v nm)) w) :=
  (Without_any v cs nm w hv hz).mono fun _ _ h => gives_map h
theorem sz_in {B : Nat} {v : V} (h : szA B v) : szAL B (inM v) ∧ (inM v).length * 96 ≤ B ∧ ∀ n ∈ inN v, n.length ≤ B := by
  obtain ⟨-, -, -, -, h5, h6, -, h8⟩ := (szA_eq B v).1 h
  refine ⟨szAL_sub h8 fun x hx => inM_mem hx, ?_, fun n hn => h6 n (inN_mem hn)⟩
  have := inM_le v
  omega
theorem sz_mp {B : Nat} {ns : List (List UInt8)} {ms : List V} (h1 : ms.length * 96 ≤ B) (h2 : ∀ n ∈ ns, n.length ≤ B) (h3 : ∀ x ∈ ms, szA B x) : szA B (mpV (ns, ms)) := by
  unfold mpV
  rw [szA, szAL]
  exact ⟨by decide, by decide, by simp, by simp, h1, h2, trivial, szAL_of h3⟩
theorem sz_with {v x : V} {nm : List UInt8} (hv : szA 140737488355328 v) (hx : szA 140737488355328 x) (hn : nm.length ≤ 4611686018427387904) : szA 4611686018427387904 (mpV (withN v nm, withM v nm x)) := by
  obtain ⟨q1, q2, q3⟩ := sz_in hv
  have up := fun y => Em.szA_more (B := 140737488355328) (C := 4611686018427387904) (by omega) y
  refine sz_mp ?_ (fun n h => ?_) (fun y h => ?_)
  · unfold withM; split
    · rw [List.length_set]; omega
    · rw [List.length_append]; simp; omega
  · unfold withN at h
    split at h
    · have := q3 n h; omega
    · rcases List.mem_append.1 h with k | k
      · have := q3 n k; omega
      · rw [List.mem_singleton.1 k]; exact hn
  · unfold withM at h
    split at h
    · rcases List.mem_or_eq_of_mem_set h with k | k
      · exact up y (szAL_mem q1 k)
      · rw [k]; exact up x hx
    · rcases List.mem_append.1 h with k | k
      · exact up y (szAL_mem q1 k)
      · rw [List.mem_singleton.1 k]; exact up x hx
theorem sz_wo {v : V} {nm : List UInt8} (hv : szA 140737488355328 v) : szA 4611686018427387904 (mpV (woN v nm, woM v nm)) := by
  obtain ⟨q1, q2, q3⟩ := sz_in hv
  refine sz_mp ?_ (fun n h => ?_) (fun y h => ?_)
  · unfold woM
    rw [List.length_map]
    have h1 := List.length_filter_le (fun p : List UInt8 × V => decide (p.1 ≠ nm)) ((inN v).zip (inM v))
    have h2 : ((inN v).zip (inM v)).length ≤ (inM v).length := by rw [List.length_zip]; omega
    omega
  · unfold woN at h
    obtain ⟨p, hp, rfl⟩ := List.mem_map.1 h
    have := q3 _ (List.of_mem_zip (a := p.1) (b := p.2) (List.mem_filter.1 hp).1).1
    omega
  · unfold woM at h
    obtain ⟨p, hp, rfl⟩ := List.mem_map.1 h
    exact Em.szA_more (by omega) _ (szAL_mem q1 (List.of_mem_zip (a := p.1) (b := p.2) (List.mem_filter.1 hp).1).2)
end Go.Proofs.Ytbepnjgbkfidiaa.Tr
