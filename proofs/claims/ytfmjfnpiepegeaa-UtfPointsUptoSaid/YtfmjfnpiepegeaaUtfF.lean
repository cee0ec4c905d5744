import Derived.Test.YtfmjfnpiepegeaaUtfE
import Derived.OpenShut
/- Contracts: Join, of package utf and of the document's answer. -/
namespace Go.Proofs.Ytfmjfnpiepegeaa.Utf
open Go.RowKit

/-- what Join tells: the bytes of the points up to the first number that is none, and how many these are -/
def joinB (xs : List Int) : List UInt8 := encL (xs.takeWhile isPt)
def joinN (xs : List Int) : Nat := (xs.takeWhile isPt).length

/-- where a loop over xs stands: behind k points -/
def JoinAt (xs : List Int) (k : Nat) : Prop := k ≤ xs.length ∧ ∀ p ∈ xs.take k, isPt p = true
theorem JoinAt.start (xs : List Int) : JoinAt xs 0 := ⟨by omega, by simp⟩
theorem take_succ' {α : Type} (xs : List α) (k : Nat) (h : k < xs.length) : xs.take (k + 1) = xs.take k ++ [xs[k]] := by
  rw [List.take_succ_eq_append_getElem h]
theorem JoinAt.step {xs : List Int} {k : Nat} (h : JoinAt xs k) (hk : k < xs.length) (hp : isPt xs[k] = true) : JoinAt xs (k + 1) := by
  refine ⟨by omega, fun p hx => ?_⟩
  rw [take_succ' xs k hk, List.mem_append] at hx
  rcases hx with hx | hx
  · exact h.2 p hx
  · simp at hx; subst hx; exact hp
theorem takeWhile_all {α : Type} (f : α → Bool) : ∀ (a b : List α), (∀ x ∈ a, f x = true) → (a ++ b).takeWhile f = a ++ b.takeWhile f
  | [], b, _ => by simp
  | x :: a, b, h => by
    have h1 := h x (by simp)
    have := takeWhile_all f a b fun y hy => h y (by simp [hy])
    simp [h1, this]
theorem JoinAt.stop {xs : List Int} {k : Nat} (h : JoinAt xs k) (hk : k < xs.length) (hp : isPt xs[k] = false) : xs.takeWhile isPt = xs.take k := by
  have := takeWhile_all isPt (xs.take k) (xs.drop k) h.2
  rw [List.take_append_drop] at this
  have e : (xs.drop k).takeWhile isPt = [] := by
    rw [List.drop_eq_getElem_cons hk, List.takeWhile_cons, hp]; rfl
  rw [this, e, List.append_nil]
theorem JoinAt.end_ {xs : List Int} (h : JoinAt xs xs.length) : xs.takeWhile isPt = xs := by
  have := takeWhile_all isPt xs [] (by simpa using h.2)
  simpa using this
theorem encL_le (xs : List Int) : (encL xs).length ≤ 4 * xs.length := by
  induction xs with
  | nil => simp [encL]
  | cons x xs ih =>
    rw [encL_cons]
    have := enc_le x
    simp
    omega
theorem encL_take (xs : List Int) (k : Nat) (h : k < xs.length) : encL (xs.take (k + 1)) = encL (xs.take k) ++ enc xs[k] := by
  rw [take_succ' xs k h, encL_append]; simp [encL]

/-- What a call hands back: a text and a number; what was there stays. -/
def GivesStrN (l : List UInt8) (m : Int) (w : World) (e : Ending) (w' : World) : Prop :=
  e = .returned (.tuple #[.string (strOf l), .int .i64 m]) ∧ Below w.heap.size w w'

set_option maxHeartbeats 1000000 in
theorem Join_any (v : Value) (xs : List Int) (w : World) (hv : Rd w w.heap.size v (xs.map (Value.int .i32))) (hr : 4 * xs.length ≤ 140737488355328) :
    Calls Try.prog 17 #[v] w (GivesStrN (joinB xs) (joinN xs) w) := by
  have hlen : (xs.map (Value.int .i32)).length = xs.length := List.length_map _
  obtain ⟨A, c, rfl, hcell⟩ := hv
  rw [hlen] at hcell ⊢
  have HC := Lib.hid hcell; clear hcell
  go_enter Try.func17, Try.ntmps17
  go_wp2
  go_loopw [4, 5, 6, 9] (fun b _ _ i wr => ∃ k : Nat, i = .int .i64 k ∧ JoinAt xs k ∧ wr.ownsRow w.heap.size 5 1 b (Lib.byteCells (encL (xs.take k))).length (Lib.byteCells (encL (xs.take k))) ∧ Below w.heap.size w wr) (fun _ _ _ i _ => xs.length - (intOf i).toNat)
  case atStart => exact ⟨0, rfl, JoinAt.start _, World.ownsRow_nil _ _ _ _, Below.refl _ _⟩
  case round =>
    obtain ⟨k, rfl, hat, hown, hbel⟩ := hrel
    have hk := hat.1
    have HAT := Lib.hid hat; clear hat
    have hbB := hbel.size
    by_cases hlt : k < xs.length
    · obtain ⟨ad, rfl, hblk, hc⟩ := HC.out (by omega)
      have hck : wr.cell? (ad.add k) = some (.int .i32 xs[k]) := (hbel.cell (by rw [blk_add]; exact hblk)).trans (hc k _ (by simp [List.getElem?_eq_getElem hlt]))
      clear hc
      by_cases hp : isPt xs[k] = true
      · have HP := Lib.hid hp
        go_wp2_with (go_at_call 22; refine (isPoint_any _ _).mono ?_; rintro e w' ⟨rfl, rfl⟩)
        refine (lay_any _ _ xs[k] w.heap.size _ hown hbB ?_).mono ?_
        · rw [Lib.byteCells_length]; have := encL_le (xs.take k); rw [List.length_take] at this; omega
        rintro e w1 ⟨v1, rfl, hown1, hb1⟩
        clear hp
        go_wp2_with fail
        go_roundw
        case rel => exact ⟨k + 1, by go_num, HAT.out.step hlt HP.out, by rw [encL_take xs k hlt, Lib.byteCells_append]; exact hown1, hbel.trans hb1⟩
        case measure => simp [intOf]; omega
      · have hp' : isPt xs[k] = false := by simpa using hp
        clear hp
        have hcv := (Rd.of_own hown).conv (P := Try.prog) Try.underlying29 Try.underlying5 Try.underlying9
        go_wp2_with (go_at_call 22; refine (isPoint_any _ _).mono ?_; rintro e w' ⟨rfl, rfl⟩)
        go_ret2
        have he := HAT.out.stop hlt hp'
        refine ⟨?_, hbel⟩
        rw [joinB, joinN, he, List.length_take, Nat.min_eq_left hk]
        rfl
    · have hd : decide (k < xs.length) = false := by simpa using hlt
      obtain rfl : k = xs.length := by omega
      have hcv := (Rd.of_own hown).conv (P := Try.prog) Try.underlying29 Try.underlying5 Try.underlying9
      go_wp2_with fail
      go_ret2
      have he := HAT.out.end_
      refine ⟨?_, hbel⟩
      rw [joinB, joinN, he]
      rfl

theorem own_below {w w' : World} {base E size n : Nat} {v : Value} {xs : List Value} (h : w.ownsRow base E size v n xs) (hb : Below w.heap.size w w') : w'.ownsRow base E size v n xs := by
  have hlt := h.lt
  obtain ⟨hl, h⟩ := h
  refine ⟨hl, ?_⟩
  rcases h with h | ⟨g, cap, cur, rfl, h1, h2, h3⟩
  · exact .inl h
  · exact .inr ⟨g, cap, cur, rfl, h1, (hb.block g (hlt g rfl).2).trans h2, h3⟩

theorem byteCells_one (l : List UInt8) : ∀ u ∈ Lib.byteCells l, u.oneCell' = true := by
  intro u hu
  simp only [Lib.byteCells, List.mem_map] at hu
  obtain ⟨a, _, rfl⟩ := hu
  rfl

set_option maxHeartbeats 1000000 in
theorem rJoin_any (v : Value) (xs : List Int) (w : World) (hv : Rd w w.heap.size v (xs.map (Value.int .i32))) (hw : ∀ n ∈ xs, (Lit.int .i32 n).wf = true) (hr : 4 * xs.length ≤ 140737488355328) :
    Calls Try.prog 18 #[v] w (GivesStrN (joinB xs) (joinN xs) w) := by
  obtain ⟨i0, hi, hz0, hz1, hz2⟩ := info_parts infoU8
  have hlen : (xs.map (Value.int .i32)).length = xs.length := List.length_map _
  obtain ⟨A, c, rfl, hcell⟩ := hv
  rw [hlen] at hcell ⊢
  have HC := Lib.hid hcell; clear hcell
  have HW := Lib.hid hw; clear hw
  go_enter Try.func18, Try.ntmps18
  go_wp2
  go_loopw [4, 5] (fun b i wr => ∃ k : Nat, i = .int .i64 k ∧ JoinAt xs k ∧ wr.ownsRow w.heap.size 5 1 b (Lib.byteCells (encL (xs.take k))).length (Lib.byteCells (encL (xs.take k))) ∧ Below w.heap.size w wr) (fun _ i _ => xs.length - (intOf i).toNat)
  case atStart => exact ⟨0, rfl, JoinAt.start _, World.ownsRow_nil _ _ _ _, Below.refl _ _⟩
  case round =>
    obtain ⟨k, rfl, hat, hown, hbel⟩ := hrel
    have hk := hat.1
    have HAT := Lib.hid hat; clear hat
    have hbB := hbel.size
    by_cases hlt : k < xs.length
    · obtain ⟨ad, rfl, hblk, hc⟩ := HC.out (by omega)
      have hck : wr.cell? (ad.add k) = some (.int .i32 xs[k]) := (hbel.cell (by rw [blk_add]; exact hblk)).trans (hc k _ (by simp [List.getElem?_eq_getElem hlt]))
      clear hc
      obtain ⟨x0, x1⟩ := bounds_i32 (HW.out xs[k] (List.getElem_mem hlt))
      by_cases hp : isPt xs[k] = true
      · have HP := Lib.hid hp
        go_wp2_with (go_at_call 21; refine (Is_any _ _).mono ?_; rintro e w' ⟨rfl, rfl⟩)
        refine (Bytes_any xs[k] wr).mono ?_
        rintro e w1 ⟨v1, rfl, hown1, hb1⟩
        have hpos := enc_pos hp
        clear hp
        obtain ⟨A1, c1, rfl, hc1⟩ := Rd.of_own hown1
        obtain ⟨ad1, rfl, hblk1, hcell1⟩ := hc1 (by rw [Lib.byteCells_length]; exact hpos)
        have HC1 := Lib.hid hcell1; clear hcell1 hc1
        have hownk := own_below hown hb1
        have hln : (Lib.byteCells (encL (xs.take k))).length + (Lib.byteCells (enc xs[k])).length ≤ 140737488355328 := by
          rw [Lib.byteCells_length, Lib.byteCells_length]; have := encL_le (xs.take k); have := enc_le xs[k]; rw [List.length_take] at *; omega
        go_wp2_with (at_builtin; refine wpList_append_own _ rfl _ _ 29 rfl w.heap.size 5 i0 (.int .u8 0) 1 1 Try.underlying29 hi hz0 hz1 hz2 rfl (by decide) _ _ _ rfl hownk ad1 _ c1 (Lib.byteCells (enc xs[k])) rfl (Nat.mul_one _).symm HC1.out (byteCells_one _) ?_ ?_ ?_ ?_; (unfold maxLen; omega); omega; (have := hb1.size; omega); intro v2 w2 hown2 hg2 _)
        go_roundw
        case rel => exact ⟨k + 1, by go_num, HAT.out.step hlt HP.out, by rw [encL_take xs k hlt, Lib.byteCells_append, List.length_append]; exact hown2, (hbel.trans (hb1.mono hbB)).grown hg2 (by have := hb1.size; omega) (fun g hg => (hown.lt g hg).1)⟩
        case measure => simp [intOf]; omega
      · have hp' : isPt xs[k] = false := by simpa using hp
        clear hp
        have hcv := (Rd.of_own hown).conv (P := Try.prog) Try.underlying29 Try.underlying5 Try.underlying9
        go_wp2_with (go_at_call 21; refine (Is_any _ _).mono ?_; rintro e w' ⟨rfl, rfl⟩)
        go_ret2
        have he := HAT.out.stop hlt hp'
        refine ⟨?_, hbel⟩
        rw [joinB, joinN, he, List.length_take, Nat.min_eq_left hk]
        rfl
    · have hd : decide (k < xs.length) = false := by simpa using hlt
      obtain rfl : k = xs.length := by omega
      have hcv := (Rd.of_own hown).conv (P := Try.prog) Try.underlying29 Try.underlying5 Try.underlying9
      go_wp2_with fail
      go_ret2
      have he := HAT.out.end_
      refine ⟨?_, hbel⟩
      rw [joinB, joinN, he]
      rfl
end Go.Proofs.Ytfmjfnpiepegeaa.Utf
