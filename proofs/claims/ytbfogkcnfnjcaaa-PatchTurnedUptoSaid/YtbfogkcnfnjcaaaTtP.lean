/- The law 'PatchTurned': for every input whose values and letters are at most 1048576 together the call returns true, and what was handed in reads behind it as it did. -/
import Derived.Test.YtbfogkcnfnjcaaaRows
import Derived.Test.YtbfogkcnfnjcaaaTt1
import Derived.Test.YtbfogkcnfnjcaaaTt42
import Derived.WalkKit
import Derived.ProofKit
import Derived.OpenShut
import Derived.ShutString
import Derived.ChangeOld
import Derived.Below
import Derived.JoinedCond
import Derived.Test.YtbfogkcnfnjcaaaTt0
namespace Go.Proofs.Ytbfogkcnfnjcaaa.patchTurned
open Go.ChangeShapes Go.WideShapes Go.ChangeAt Go.RowKit
open Go.ChangeMaps (open_string shut_string)
set_option linter.unusedVariables false

theorem own : ownKnob Try.prog.godebug = none := by kernel_rfl
theorem laidOut : laidOutB Try.prog = true := by kernel_rfl

set_option maxRecDepth 100000 in
theorem contract (H : Type) (enc : TypeId × Value → H) (W : World) (base : Nat) (args : Array Value) (ds gs : List (DataW H)) (before : List MemPlace)
    (hval : ∀ (j : Nat) t v, Try.f4.params[j]? = some t → args[j]? = some v → Value.okWide Try.prog W .any base t v)
    (hW : DataW.Whole enc Try.prog Try.f4.params.toList Rows.patchTurnedSpec.vars false W args.toList ds gs before) (hk : Rows.uptoSmall H (ds ++ gs) = true) :
    Calls Try.prog 4 args W fun e W' => ∃ v, e = .returned v ∧ Rows.patchTurnedSpec.post enc Try.prog Try.f4 false true false false W args v W' := by
  have hW' := hW
  obtain ⟨p, q, hA0, hV, rfl, hfz, hnd⟩ := hW
  have hA : DataW.TrodAll enc Try.prog W 0 (fun _ => true) true Try.f4.params.toList args.toList ds p := hA0
  rw [Try.params4] at hA hval
  obtain ⟨v0, vs0, d0, ds0, p0, q0, hargs, rfl, rfl, h0, r0⟩ := trodAll_cons hA
  obtain ⟨v1, vs1, d1, ds1, p1, q1, rfl, rfl, rfl, h1, r1⟩ := trodAll_cons r0
  obtain ⟨v2, vs2, d2, ds2, p2, q2, rfl, rfl, rfl, h2, r2⟩ := trodAll_cons r1
  obtain ⟨rfl, rfl, rfl⟩ := trodAll_nil r2
  obtain rfl : args = #[v0, v1, v2] := by cases args; simp_all
  obtain ⟨rfl, rfl⟩ := trodVars_none hV
  simp only [List.append_nil] at hk
  obtain ⟨cs0, rfl, _⟩ := okWide_struct Try.underlying25 (hval 0 25 v0 rfl rfl)
  obtain ⟨cs0⟩ := cs0
  have k0 := h0
  have lt0 : ∀ x ∈ p0, x.block < W.heap.size := by obtain ⟨m, hm⟩ := k0; exact DataW.trod_lt m _ _ _ hm
  obtain ⟨x0, z0, b0, f0⟩ : ∃ v, Go.Proofs.Ytbfogkcnfnjcaaa.Re.RdA W 0 W.heap.size v cs0 ∧ Go.Proofs.Ytbfogkcnfnjcaaa.Em.szU v ≤ 1048576 ∧ Go.Proofs.Ytbfogkcnfnjcaaa.Em.wfV v := by
    obtain ⟨fuel, hf⟩ := h0
    obtain ⟨v, y1, y2, y3⟩ := Go.Proofs.Ytbfogkcnfnjcaaa.Em.open_valU fuel _ _ hf
    exact ⟨v, y1, Nat.le_trans y2 (Nat.le_trans (bulk_at (j := 0) rfl) (of_decide_eq_true hk : Rows.uptoBulkAll _ ≤ 1048576)), y3⟩
  obtain ⟨cs1, rfl, _⟩ := okWide_struct Try.underlying25 (hval 1 25 v1 rfl rfl)
  obtain ⟨cs1⟩ := cs1
  have k1 := h1
  have lt1 : ∀ x ∈ p1, x.block < W.heap.size := by obtain ⟨m, hm⟩ := k1; exact DataW.trod_lt m _ _ _ hm
  obtain ⟨x1, z1, b1, f1⟩ : ∃ v, Go.Proofs.Ytbfogkcnfnjcaaa.Re.RdA W 0 W.heap.size v cs1 ∧ Go.Proofs.Ytbfogkcnfnjcaaa.Em.szU v ≤ 1048576 ∧ Go.Proofs.Ytbfogkcnfnjcaaa.Em.wfV v := by
    obtain ⟨fuel, hf⟩ := h1
    obtain ⟨v, y1, y2, y3⟩ := Go.Proofs.Ytbfogkcnfnjcaaa.Em.open_valU fuel _ _ hf
    exact ⟨v, y1, Nat.le_trans y2 (Nat.le_trans (bulk_at (j := 1) rfl) (of_decide_eq_true hk : Rows.uptoBulkAll _ ≤ 1048576)), y3⟩
  obtain ⟨A2, len2, cap2, rfl⟩ := okWide_slice Try.underlying39 (hval 2 39 v2 rfl rfl)
  have k2 := h2
  have lt2 : ∀ x ∈ p2, x.block < W.heap.size := by obtain ⟨m, hm⟩ := k2; exact DataW.trod_lt m _ _ _ hm
  obtain ⟨xs2, w2, z2, b2⟩ : ∃ xs : List Int, Rd W W.heap.size (.slice A2 len2 cap2) (xs.map (Value.int .i64)) ∧ (∀ n ∈ xs, (Lit.int .i64 n).wf = true) ∧ xs.length ≤ 1048576 := by
    obtain ⟨fuel, hf⟩ := h2
    rcases open_ints Try.underlying39 Try.underlying3 (by kernel_rfl) hf with ⟨hcs, hx⟩ | ⟨x, l, c, zs, hcs, _, hl, hm, hz, hx, hcell, hwz⟩
    · simp [Value.cells] at hcs
      obtain ⟨rfl, rfl, rfl⟩ := hcs
      exact ⟨[], Rd.nil_ _ _ _, by simp, by simp⟩
    · simp [Value.cells] at hcs
      obtain ⟨rfl, rfl, rfl⟩ := hcs
      refine ⟨zs.take len2, Rd.of_ints (by simpa using hz) hl hcell, fun n hn => hwz n (List.mem_of_mem_take hn), ?_⟩
      have hd : d2 = _ := congrArg Prod.fst hx
      rw [hd] at hk
      have h := Nat.le_trans (bulk_at (j := 2) rfl) (of_decide_eq_true hk : Rows.uptoBulkAll _ ≤ 1048576)
      rw [Rows.uptoBulk] at h
      have h2 := bulk_len (H := H) ((zs.take len2).map fun x => DataW.lit (.int .i64 x))
      simp only [List.length_map] at h2
      simp only [lits] at h
      omega
  clear hA0
  refine (Go.Proofs.Ytbfogkcnfnjcaaa.Pa.turned_walk x0 cs0 x1 cs1 (.slice A2 len2 cap2) xs2 W z0 b0 f0 z1 b1 f1 w2 z2 b2).mono fun e W' ⟨he, bel⟩ => ?_
  subst he
  exact ⟨_, rfl, _, _, _, [], _, [], hW', trodAll_mk1 (shut_bool Try.underlying4 _), (trodAll_cons_mk (Below.trod laidOut (by kernel_rfl) (of_decide_eq_true (by kernel_rfl)) k0 bel lt0) (trodAll_cons_mk (Below.trod laidOut (by kernel_rfl) (of_decide_eq_true (by kernel_rfl)) k1 bel lt1) (trodAll_cons_mk (Below.trod laidOut (by kernel_rfl) (of_decide_eq_true (by kernel_rfl)) k2 bel lt2) trodAll_mk0))), rfl, bel.frame _, fun h => by cases h⟩

set_option maxRecDepth 100000 in
theorem lifted (os : Os) (started : os.Started) (H : Type) (enc : TypeId × Value → H) (F : Stop.Interp) :
    ReturnsInHanded {} Try.checked os 4 .any ((Rows.OpenSpec.upto Rows.patchTurnedSpec).pre6 enc Try.prog Try.f4 Rows.patchTurnedUptoRow.domain false) (((Rows.OpenSpec.upto Rows.patchTurnedSpec).at F).post enc Try.prog Try.f4 false true false false) := by
  refine returnsInHanded_of_cond (C := Try.checked) (s := Rows.OpenSpec.upto Rows.patchTurnedSpec) (k := Rows.uptoSmall) rfl own started (by kernel_rfl) Try.func4
    (OpenSpec.witness (enc := enc) (C := Try.checked) (s := Rows.OpenSpec.upto Rows.patchTurnedSpec) (k := Rows.uptoSmall) rfl false ⟨#[], #[.agg #[.int .i64 0, .int .i64 0, .string ByteArray.empty, .slice none 0 0, .slice none 0 0], .agg #[.int .i64 0, .int .i64 0, .string ByteArray.empty, .slice none 0 0, .slice none 0 0], .slice none 0 0], []⟩ 8 (by kernel_rfl) (by kernel_rfl) (by kernel_rfl)
      (x := ([.agg [.lit (.int .i64 0), .lit (.int .i64 0), .lit (.string []), .nil, .nil], .agg [.lit (.int .i64 0), .lit (.int .i64 0), .lit (.string []), .nil, .nil], .nil], [], [])) (by kernel_rfl) rfl (by kernel_rfl)) ?_
  intro W base args ds gs before hval hW _ hk _
  exact contract H enc W base args ds gs before hval hW hk

/-- THE STATEMENT -/
theorem proved : Rows.PatchTurnedUptoSaid :=
  OpenClaim.holds_of_cond 4 Try.f4 rfl rfl rfl rfl rfl rfl rfl ⟨rfl, rfl, rfl, rfl, rfl⟩ rfl rfl rfl rfl rfl (by kernel_rfl) Try.func4 (by kernel_rfl)
    (of_decide_eq_true (by kernel_rfl)) (by unfold Func.isWrapper; first | (rw [if_pos (by decide +kernel)]; kernel_rfl) | (rw [if_neg (by decide +kernel)]; exact ⟨rfl, rfl⟩))
    (fun os started H enc _ F => lifted os started H enc F)
#print axioms proved
end Go.Proofs.Ytbfogkcnfnjcaaa.patchTurned
