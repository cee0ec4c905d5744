import Derived.Test.YtbepnjgbkfidiaaTtTsP
/- What spoils a map's members alone; what a call of spoil changes, by ranges of blocks. Written by tools/genTsQ.py. -/
namespace Go.Proofs.Ytbepnjgbkfidiaa.Tr
open Go.Proofs Go.RowKit Go.Lib
open Go.Proofs.Ytbepnjgbkfidiaa.Utf
open Go.Proofs.Ytbepnjgbkfidiaa.Sc
open Go.Proofs.Ytbepnjgbkfidiaa.Re

set_option maxRecDepth 100000 in
set_option maxHeartbeats 1000000 in
theorem SpoilF_any (A : Option Addr) (n c : Nat) (F : List Nat) (w : World) (hn : n < 1466015503701) (hF : ∀ x ∈ F, x < w.heap.size) (hA : 0 < n → ∃ g, A = some ⟨g, 0, none⟩ ∧ g ∈ F ∧ ∀ k, k < n → w.there g (k * 6) 6) :
    Calls Try.prog 23 #[.agg #[.int .i64 6, .int .i64 0, .string ⟨#[]⟩, .slice none 0 0, .slice A n c], .bool false] w fun e w' => e = .returned (.tuple #[]) ∧ ChgF F w w' := by
  have HINF := Lib.hid (show (Try.prog.info? 50).map (·.size) = some 6 by kernel_rfl)
  have HNF := Lib.hid (show w.heap.size ∉ F from fun hx => by have := hF _ hx; omega)
  obtain ⟨W0, hW0⟩ : ∃ W0, W0 = w.alloc (.cells #[.int .i64 6, .int .i64 0, .string ⟨#[]⟩, .slice none 0 0, .slice A n c] 25) := ⟨_, rfl⟩
  have HB0 := Lib.hid (show Below w.heap.size w W0 by rw [hW0]; exact (Below.refl _ _).alloc (Nat.le_refl _) _)
  have HS0 := Lib.hid (show W0.heap.size = w.heap.size + 1 by rw [hW0, szAl])
  have HR0 := Lib.hid (show W0.heap[w.heap.size]? = some (.cells #[.int .i64 6, .int .i64 0, .string ⟨#[]⟩, .slice none 0 0, .slice A n c] 25 (0, 0)) by rw [hW0]; exact heapNew _ _)
  have HA := Lib.hid (show 0 < n → ∃ g, A = some ⟨g, 0, none⟩ ∧ g ∈ F ∧ ∀ k, k < n → W0.there g (k * 6) 6 from fun h => by
    obtain ⟨g, e, h1, h2⟩ := hA h
    refine ⟨g, e, h1, fun k hk j hj => ?_⟩
    have hb := HB0.out.block g (hF g h1)
    obtain ⟨q1, q2⟩ := h2 k hk j hj
    exact ⟨by rw [cell_of_blk (p := ⟨g, k * 6 + j, none⟩) hb]; exact q1, by unfold World.frozen? at *; rw [show W0.heap[(⟨g, k * 6 + j, none⟩ : Addr).block]? = _ from hb]; exact q2⟩)
  have HW0 := Lib.hid hW0
  clear hW0 hA hF
  go_enter Try.func23, Try.ntmps23
  go_wp2_with fail
  rw [← HW0.out]
  go_loopw [4] (fun i wr => ∃ kk : Nat, i = .int .i64 kk ∧ kk ≤ n ∧ Aside (∀ g k, W0.there g (k * 6) 6 → wr.there g (k * 6) 6) ∧ Aside (ChgF F W0 wr)) (fun i _ => n - (intOf i).toNat)
  case atStart => exact ⟨0, rfl, by omega, (show ∀ _ _, _ → _ from fun _ _ h => h), (show ChgF _ _ _ from ChgF.refl _ _)⟩
  case round =>
    obtain ⟨kk, rfl, hk, hth, hch⟩ := hrel
    have HROW := Lib.hid ((hch.out.block w.heap.size (by rw [HS0.out]; omega) HNF.out).trans HR0.out)
    obtain ⟨⟨p0, p1, p2, p3, p4⟩, -⟩ := row5 HROW.out
    by_cases hlt : kk < n
    · have t1 : decide ((kk : Int) < (n : Int)) = true := decide_eq_true (by omega)
      have t2 : decide (kk < n) = true := decide_eq_true hlt
      have k0 : (0 : Int) ≤ (kk : Int) := by omega
      have k1 : (kk : Int) < (n : Int) := by omega
      have k2 : ((kk : Int)).toNat = kk := by omega
      obtain ⟨g, rfl, hg, hA⟩ := HA.out (by omega)
      have HTH := Lib.hid (hth.out g kk (hA kk hlt))
      have HG := Lib.hid hg
      clear hA hg
      go_wp2_with (guard_target = wpList _ _ _ (Oper.mk _ (Op.store _ _ _) _ _ _ _ :: _) _ _; refine wpList_store_mid rfl 50 _ _ rfl g (kk * 6) #[.string ⟨#[115, 112, 111, 105, 108, 116]⟩, .int .i64 0, .int .i64 0, .string ⟨#[]⟩, .slice none 0 0, .slice none 0 0] rfl rfl HTH.out HINF.out (by simp [Value.oneCell']) ?_)
      go_roundw
      case rel => exact ⟨kk + 1, by go_num, by omega, (show ∀ _ _, _ → _ from fun g' k h => World.there_setCells (hth.out g' k h) g (kk * 6) _), (show ChgF _ _ _ from hch.out.trans (setCells_chg g F HG.out _ _ _))⟩
      case measure => simp [intOf]; omega
    · have t1 : decide ((kk : Int) < (n : Int)) = false := decide_eq_false (by omega)
      have t2 : decide (kk < n) = false := decide_eq_false hlt
      obtain ⟨w2, hw2⟩ : ∃ w2, w2 = wr := ⟨_, rfl⟩
      rw [← hw2] at hch p0 p1 p2 p3 p4 HROW hth ⊢
      have HC2 := Lib.hid hch.out
      clear hw2 hch hth
      go_wp2_with fail
      clear t1 t2 hlt hk
      go_loopw [5] (fun i wr => i = .int .i64 0 ∧ Aside (wr = w2)) (fun i _ => 0)
      case atStart => exact ⟨rfl, (show _ = _ from rfl)⟩
      case round =>
        obtain ⟨rfl, hw⟩ := hrel
        obtain rfl : w2 = wr := hw.out.symm
        clear hw
        go_wp2
        go_end0
        exact ⟨rfl, (ChgF.of HB0.out).trans HC2.out⟩
/-- memory that is changed in the blocks from lo to hi alone -/
structure ChgR (lo hi : Nat) (w w' : World) : Prop where
  os : w'.os = w.os
  tape : w'.tape = w.tape
  output : w'.output = w.output
  size : w.heap.size ≤ w'.heap.size
  block : ∀ k, k < w.heap.size → ¬ (lo ≤ k ∧ k < hi) → w'.heap[k]? = w.heap[k]?
theorem ChgR.refl (lo hi : Nat) (w : World) : ChgR lo hi w w := ⟨rfl, rfl, rfl, Nat.le_refl _, fun _ _ _ => rfl⟩
theorem ChgR.of {lo hi : Nat} {F : List Nat} {w w' : World} (h : ChgF F w w') (hF : ∀ x ∈ F, lo ≤ x ∧ x < hi) : ChgR lo hi w w' := ⟨h.os, h.tape, h.output, h.size, fun k h1 h2 => h.block k h1 fun hx => h2 (hF k hx)⟩
theorem ChgR.next {lo mid hi : Nat} {w w1 w2 : World} (h : ChgR lo mid w w1) (k : ChgR mid hi w1 w2) (h1 : lo ≤ mid) (h2 : mid ≤ hi) : ChgR lo hi w w2 :=
  ⟨k.os.trans h.os, k.tape.trans h.tape, k.output.trans h.output, Nat.le_trans h.size k.size, fun i q1 q2 => (k.block i (Nat.lt_of_lt_of_le q1 h.size) (by omega)).trans (h.block i q1 (by omega))⟩
theorem ChgR.below {lo hi B : Nat} {w w' : World} (h : ChgR lo hi w w') (hB : B ≤ w.heap.size) (hl : B ≤ lo) : Below B w w' := ⟨h.os, h.tape, h.output, h.size, fun k hk => h.block k (by omega) (by omega)⟩
/-- a call of spoil that changes the blocks from lo to hi alone, where they are as they were in w0 -/
def SpR (cs : List Value) (b : Bool) (lo hi : Nat) (w0 : World) : Prop :=
  ∀ W : World, hi ≤ W.heap.size → (∀ k, lo ≤ k → k < hi → W.heap[k]? = w0.heap[k]?) → Calls Try.prog 23 #[.agg cs.toArray, .bool b] W fun e w' => e = .returned (.tuple #[]) ∧ ChgR lo hi W w'
theorem SpR.below {cs : List Value} {b : Bool} {lo hi : Nat} {w0 w1 : World} (h : SpR cs b lo hi w0) (hb : Below w0.heap.size w0 w1) (hh : hi ≤ w0.heap.size) : SpR cs b lo hi w1 := fun W h1 h2 =>
  h W h1 fun k k1 k2 => (h2 k k1 k2).trans (hb.block k (by omega))
theorem spR_of {v : V} {cs : List Value} {F : List Nat} {lo : Nat} {w0 : World} (hz : szA 140737488355328 v) (hr : RdF w0 v cs F) (hn : F.Nodup) (hF : ∀ x ∈ F, lo ≤ x ∧ x < w0.heap.size) : SpR cs true lo w0.heap.size w0 := fun W h1 h2 =>
  (Spoil_any (ht v) v (Nat.le_refl _) hz cs F W (RdF.keep _ _ _ (fun k hk => h2 k (hF k hk).1 (hF k hk).2) hr) hn (fun x hx => Nat.lt_of_lt_of_le (hF x hx).2 h1)).mono fun _ _ q => ⟨q.1, ChgR.of q.2 hF⟩
theorem spR_gm {ns : List (List UInt8)} {ms : List V} {A : Option Addr} {n c lo : Nat} {w0 : World} (hm : ms.length = n) (hz : n < 1466015503701) (hn : ns.length = ms.length) (h : 0 < ms.length → ∃ g, A = some ⟨g, 0, none⟩ ∧ lo ≤ g ∧ g < w0.heap.size ∧ ∀ k (_ : k < ms.length) (_ : k < ns.length), ∃ cs, CellsAt w0 g (k * 6) (.string (strOf ns[k]) :: cs) ∧ RdA w0 0 lo ms[k] cs) :
    SpR [.int .i64 6, .int .i64 0, .string ⟨#[]⟩, .slice none 0 0, .slice A n c] false lo w0.heap.size w0 := fun W h1 h2 => by
  subst hm
  by_cases h0 : 0 < ms.length
  · obtain ⟨g, e, g1, g2, hk⟩ := h h0
    refine (SpoilF_any A ms.length c [g] W hz (fun x hx => by rw [List.mem_singleton.1 hx]; omega) (fun _ => ⟨g, e, by simp, fun k hk1 => ?_⟩)).mono fun _ _ q => ⟨q.1, ChgR.of q.2 fun x hx => by rw [List.mem_singleton.1 hx]; exact ⟨g1, g2⟩⟩
    obtain ⟨cs, p1, p2⟩ := hk k hk1 (by omega)
    have := (p1.keep (h2 g g1 g2)).there
    rw [List.length_cons, (rd_one p2).1] at this
    exact this
  · exact (SpoilF_any A ms.length c [] W hz (fun x hx => by cases hx) (fun h => absurd h h0)).mono fun _ _ q => ⟨q.1, ChgR.of q.2 fun x hx => by cases hx⟩
end Go.Proofs.Ytbepnjgbkfidiaa.Tr
