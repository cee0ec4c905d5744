/- Merged: TlM. -/
import Derived.Test.YtfdibmcjjclgkaaTt6
import Derived.Maps.OwnOps
import Derived.Maps.OwnSet
namespace Go.Proofs.Ytfdibmcjjclgkaa.Tl
open Go.Proofs Go.RowKit
open Go.Maps (Keyed string_keyed IsMap isMap_empty atKey_put_same atKey_put_other has_put_same has_put_other)
open Go.Proofs.Ytfdibmcjjclgkaa.Utf
open Go.Proofs.Ytfdibmcjjclgkaa.Ro

def mayS (last what : Int) : Bool := decide (1 ≤ what ∧ what ≤ 3 ∧ (what = 1 → last = 0) ∧ (what ≠ 1 → last ≠ 3))
theorem okAt_may (f : Int) (pre : List En) (e : En) : okAt f pre e = (decide (e.1 = f + 1 + (pre.length : Int)) && mayS (wasS pre e.2.1) e.2.2) := by
  unfold okAt mayS
  rw [← Bool.decide_and]
set_option maxHeartbeats 1000000 in
set_option maxRecDepth 100000 in
theorem mayCome_any (last what : Int) (w : World) : Calls Try.prog 20 #[.int .i64 last, .int .i64 what] w fun e w' => e = .returned (.bool (mayS last what)) ∧ w' = w := by
  obtain ⟨r, hr⟩ : ∃ r, mayS last what = r := ⟨_, rfl⟩
  rw [hr]
  by_cases h1 : what = 1
  · have t1 : (what == 1) = true := by rw [beq_iff_eq]; exact h1
    by_cases h2 : last = 0
    · have t2 : (last == 0) = true := by rw [beq_iff_eq]; exact h2
      obtain rfl : r = true := by rw [← hr]; unfold mayS; rw [decide_eq_true (by omega)]
      clear hr h1 h2
      go_enter Try.func20, Try.ntmps20
      go_wp2_with fail
      go_ret
      exact ⟨rfl, rfl⟩
    · have t2 : (last == 0) = false := beq_eq_false_iff_ne.2 h2
      obtain rfl : r = false := by rw [← hr]; unfold mayS; rw [decide_eq_false (by omega)]
      clear hr h1 h2
      go_enter Try.func20, Try.ntmps20
      go_wp2_with fail
      go_ret
      exact ⟨rfl, rfl⟩
  · have t1 : (what == 1) = false := beq_eq_false_iff_ne.2 h1
    by_cases h3 : what = 2 ∨ what = 3
    · by_cases h2 : last = 3
      · have t2 : (last != 3) = false := by rw [bne_eq_false_iff_eq]; exact h2
        by_cases h4 : what = 2
        · have t3 : (what == 2) = true := by rw [beq_iff_eq]; exact h4
          obtain rfl : r = false := by rw [← hr]; unfold mayS; rw [decide_eq_false (by omega)]
          clear hr h1 h2 h3 h4
          go_enter Try.func20, Try.ntmps20
          go_wp2_with fail
          go_ret
          exact ⟨rfl, rfl⟩
        · have t3 : (what == 2) = false := beq_eq_false_iff_ne.2 h4
          have t4 : (what == 3) = true := by rw [beq_iff_eq]; omega
          obtain rfl : r = false := by rw [← hr]; unfold mayS; rw [decide_eq_false (by omega)]
          clear hr h1 h2 h3 h4
          go_enter Try.func20, Try.ntmps20
          go_wp2_with fail
          go_ret
          exact ⟨rfl, rfl⟩
      · have t2 : (last != 3) = true := by rw [bne_iff_ne]; exact h2
        by_cases h4 : what = 2
        · have t3 : (what == 2) = true := by rw [beq_iff_eq]; exact h4
          obtain rfl : r = true := by rw [← hr]; unfold mayS; rw [decide_eq_true (by omega)]
          clear hr h1 h2 h3 h4
          go_enter Try.func20, Try.ntmps20
          go_wp2_with fail
          go_ret
          exact ⟨rfl, rfl⟩
        · have t3 : (what == 2) = false := beq_eq_false_iff_ne.2 h4
          have t4 : (what == 3) = true := by rw [beq_iff_eq]; omega
          obtain rfl : r = true := by rw [← hr]; unfold mayS; rw [decide_eq_true (by omega)]
          clear hr h1 h2 h3 h4
          go_enter Try.func20, Try.ntmps20
          go_wp2_with fail
          go_ret
          exact ⟨rfl, rfl⟩
    · have t3 : (what == 2) = false := beq_eq_false_iff_ne.2 (by omega)
      have t4 : (what == 3) = false := beq_eq_false_iff_ne.2 (by omega)
      obtain rfl : r = false := by rw [← hr]; unfold mayS; rw [decide_eq_false (by omega)]
      clear hr h1 h3
      go_enter Try.func20, Try.ntmps20
      go_wp2_with fail
      go_ret
      exact ⟨rfl, rfl⟩

def eK (n : List UInt8) : Lit := .string n
theorem eK_key (n : List UInt8) : WideAt.IsKeyLit (eK n) := trivial
def whD (l : List En) : DataW Unit := l.foldl (fun D e => D.put (eK e.2.1) (.lit (.int .i64 e.2.2))) (.map [])
theorem whD_snoc (l : List En) (e : En) : whD (l ++ [e]) = (whD l).put (eK e.2.1) (.lit (.int .i64 e.2.2)) := by simp [whD]
theorem whD_isMap (l : List En) : IsMap (whD l) := by
  have key : ∀ (l : List En) (D : DataW Unit), IsMap D → IsMap (l.foldl (fun D e => D.put (eK e.2.1) (.lit (.int .i64 e.2.2))) D) := by
    intro l
    induction l with
    | nil => intro D h; exact h
    | cons a r ih => intro D h; exact ih _ (h.put _ _)
  exact key l _ isMap_empty
theorem whD_at (l : List En) (id : List UInt8) : (whD l).atKey (eK id) (.lit (.int .i64 0)) = .lit (.int .i64 (wasS l id)) := by
  have key : ∀ n, n ≤ l.length → (whD (l.take n)).atKey (eK id) (.lit (.int .i64 0)) = .lit (.int .i64 (wasS (l.take n) id)) := by
    intro n
    induction n with
    | zero => intro _; rfl
    | succ n ih =>
      intro h
      rw [List.take_succ_eq_append_getElem (by omega), whD_snoc, was_snoc]
      by_cases e : l[n].2.1 = id
      · rw [if_pos e, e, atKey_put_same (whD_isMap _) (eK_key _)]
      · rw [if_neg e, atKey_put_other (fun k => e (by unfold eK at k; injection k with k; exact k.symm)), ih (by omega)]
  have := key l.length (Nat.le_refl _)
  rwa [List.take_length] at this
theorem keyE : Keyed Try.prog 9 := string_keyed Try.underlying9
theorem zeroI (w : World) : (zeroValue 3).run Try.prog w = .ok (.int .i64 0) w := by kernel_rfl
def Whs (w : World) (mb n : Nat) (D : DataW Unit) : Prop := w.ownsMap Try.prog 9 (plainElem (H := Unit) Try.prog 3) mb n D
theorem key_of {s : List UInt8} (h : s.length ≤ 9223372036854775807) : keyOf Try.prog 9 (.string (strOf s)) = some (eK s) := by
  have := Go.WideMaps.keyOf_string_mk (P := Try.prog) (k := 9) Try.underlying9 (s := strOf s) (by rw [strOf_size]; exact h)
  rw [strOf_data] at this
  exact this

set_option maxRecDepth 100000 in
set_option maxHeartbeats 4000000 in
theorem pRight_any (v : Value) (l : List En) (f s : Int) (w : World) (hl : RdE w w.heap.size v l) (hn : l.length ≤ 1000) (hI : ∀ e ∈ l, e.2.1.length ≤ 9223372036854775807) (hf : -9223372036854775808 ≤ f ∧ f ≤ 9223372036854775807) (hs : -9223372036854775808 ≤ s ∧ s ≤ 9223372036854775807) :
    Calls Try.prog 9 #[v, .int .i64 f, .int .i64 s] w fun e w' => e = .returned (.bool (rightS l f s)) ∧ Below w.heap.size w w' := by
  obtain ⟨A, c, rfl⟩ := RdE.form hl
  have HL := Lib.hid hl
  have HI := Lib.hid hI
  clear hl hI
  obtain ⟨n, hn'⟩ : ∃ n, l.length = n := ⟨_, rfl⟩
  have HN := Lib.hid hn'
  rw [hn'] at hn HL ⊢
  clear hn'
  by_cases h0 : f < 0
  · have t0 : decide (f < 0) = true := decide_eq_true h0
    have HR : rightS l f s = false := by unfold rightS; rw [decide_eq_false (by omega)]; rfl
    rw [HR]
    clear HR h0
    go_enter Try.func9, Try.ntmps9
    go_wp2_with fail
    go_ret
    exact ⟨rfl, Below.refl _ _⟩
  have t0 : decide (f < 0) = false := decide_eq_false h0
  by_cases h1 : s < f
  · have t1 : decide (s < f) = true := decide_eq_true h1
    have HR : rightS l f s = false := by unfold rightS; rw [decide_eq_false (by omega)]; rfl
    rw [HR]
    clear HR h1 h0
    go_enter Try.func9, Try.ntmps9
    go_wp2_with fail
    go_ret
    exact ⟨rfl, Below.refl _ _⟩
  have t1 : decide (s < f) = false := decide_eq_false h1
  by_cases h2 : 9007199254740991 < s
  · have t2 : decide (s > 9007199254740991) = true := decide_eq_true h2
    have t3 : decide (9007199254740991 < s) = true := decide_eq_true h2
    have HR : rightS l f s = false := by unfold rightS; rw [decide_eq_false (by omega)]; rfl
    rw [HR]
    clear HR h1 h0 h2
    go_enter Try.func9, Try.ntmps9
    go_wp2_with fail
    go_ret
    exact ⟨rfl, Below.refl _ _⟩
  have t2 : decide (s > 9007199254740991) = false := decide_eq_false h2
  have t3 : decide (9007199254740991 < s) = false := decide_eq_false h2
  by_cases h3 : (n : Int) = s - f
  · have t4 : ((n : Int) != s - f) = false := by rw [bne_eq_false_iff_eq]; exact h3
    have HR : rightS l f s = okFrom f [] l := by unfold rightS; rw [decide_eq_true (by rw [HN.out]; omega), Bool.true_and]
    rw [HR]
    clear HR
    obtain ⟨r, hr⟩ : ∃ r, okFrom f [] l = r := ⟨_, rfl⟩
    rw [hr]
    have HOK := Lib.hid hr
    have f0 : 0 ≤ f := by omega
    have f1 : f ≤ 9007199254740991 := by omega
    have s0 : 0 ≤ s := by omega
    have s1 : s ≤ 9007199254740991 := by omega
    clear hr h0 h1 h2 h3
    have hmm : (Instr.makeMap 42 none).run Try.prog w = .ok (.map (some w.heap.size)) (w.alloc (.map #[] 0)) := by kernel_rfl
    go_enter Try.func9, Try.ntmps9
    go_wp2_with fail
    go_loopw [32] (fun i wr => ∃ k : Nat, i = .int .i64 k ∧ k ≤ n ∧ Aside (okFrom f (l.take k) (l.drop k) = r) ∧ Aside (Whs wr w.heap.size k (whD (l.take k))) ∧ Aside (Below w.heap.size w wr)) (fun i _ => n - (intOf i).toNat)
    case atStart => exact ⟨0, rfl, by omega, (show _ = _ from HOK.out), World.ownsMap_made _ _ _ _, (show Below _ _ _ from (Below.refl _ _).alloc (Nat.le_refl _) _)⟩
    case round =>
      obtain ⟨k, rfl, hk, hok, hown, hbel⟩ := hrel
      have HOK := Lib.hid hok.out
      have HOW := Lib.hid hown.out
      have HBE := Lib.hid hbel.out
      clear hok hown hbel
      by_cases hlt : k < n
      · have ta : decide ((k : Int) < (n : Int)) = true := decide_eq_true (by omega)
        have tb : decide (k < n) = true := decide_eq_true hlt
        have k0 : (0 : Int) ≤ (k : Int) := by omega
        have k1 : (k : Int) < (n : Int) := by omega
        have k2 : ((k : Int)).toNat = k := by omega
        have hka : k < l.length := by rw [HN.out]; exact hlt
        obtain ⟨g, o, c, e1, -, a0, a1, a2⟩ := RdE.at_ HL.out HBE.out hka
        injection e1 with e1 z1 z2
        subst e1
        clear z1 z2
        rcases hx : l[k] with ⟨x1, x2, x3⟩
        rw [hx] at a0 a1 a2
        have HXX := Lib.hid hx
        simp only at a0 a1 a2
        have hkey := key_of (s := x2) (by have := HI.out l[k] (List.getElem_mem hka); rw [hx] at this; exact this)
        clear hx
        obtain ⟨X2, hX2⟩ : ∃ z, strOf x2 = z := ⟨_, rfl⟩
        rw [hX2] at a1 hkey
        clear hX2
        have HSTEP := Lib.hid (show okFrom f (l.take k) (l.drop k) = ((decide (x1 = f + 1 + (k : Int)) && mayS (wasS (l.take k) x2) x3) && okFrom f (l.take (k + 1)) (l.drop (k + 1))) by
          rw [ok_step hka, okAt_may, HXX.out, List.length_take, Nat.min_eq_left (by omega)])
        by_cases hq : x1 = f + 1 + (k : Int)
        · have tq : (x1 != f + 1 + (k : Int)) = false := by rw [bne_eq_false_iff_eq]; exact hq
          obtain ⟨W1, hW1⟩ : ∃ W1, W1 = wr.alloc (.cells #[.int .i64 x1, .string X2, .int .i64 x3] 26) := ⟨_, rfl⟩
          have hown1 : Whs W1 w.heap.size k (whD (l.take k)) := by rw [hW1]; exact World.ownsMap.alloc HOW.out _
          obtain ⟨cw, hrun, hat, hwc⟩ := World.ownsMap.lookup_int hown1 keyE Try.underlying42 Try.underlying3 (zeroI _) hkey
          rw [whD_at] at hat
          have hcw : wasS (l.take k) x2 = cw := by injection hat with hat; injection hat
          rw [hcw] at HSTEP
          have HOW1 := Lib.hid hown1
          have HW1 := Lib.hid hW1
          have HKEY := Lib.hid hkey
          have HB1 := Lib.hid (show Below w.heap.size w W1 by rw [hW1]; exact HBE.out.alloc HBE.out.size _)
          have HMS := Lib.hid (mayCome_any cw x3 W1)
          rw [hW1] at hrun
          have HQ := Lib.hid hq
          clear hW1 hown1 hat hcw hkey hq
          obtain ⟨m, hm⟩ : ∃ m, mayS cw x3 = m := ⟨_, rfl⟩
          rw [hm] at HMS HSTEP
          have HM := Lib.hid hm
          clear hm
          cases m with
          | true =>
            go_wp2_with (first
              | (go_at_call 20; rw [← HW1.out]; refine HMS.out.mono ?_; rintro e w' ⟨rfl, rfl⟩; rw [HW1.out])
              | (at_mapUpdate; rw [← HW1.out]; refine wpList_mapUpdate_own _ rfl _ _ _ 42 rfl 9 3 keyE Try.underlying42 _ w.heap.size k (whD (l.take k)) rfl HOW1.out (by unfold maxLen; omega) _ _ _ rfl rfl HKEY.out _ [] (plainElem_int Try.underlying3 (WalkArith.wf_i64 (by have := HM.out; unfold mayS at this; have := of_decide_eq_true this; omega))) ?_; intro w2 hown2 hgrow2))
            go_roundw
            case rel =>
              refine ⟨k + 1, by go_num, by omega, (show _ = _ by have h := HSTEP.out; rw [HOK.out, decide_eq_true HQ.out] at h; simpa using h.symm), ?_, HB1.out.grown hgrow2 HB1.out.size (fun j hj => by cases hj; exact Nat.le_refl _)⟩
              show Whs _ _ _ _
              rw [List.take_succ_eq_append_getElem hka, whD_snoc, HXX.out]
              exact hown2
            case measure => simp [intOf]; omega
          | false =>
            go_wp2_with (first
              | (go_at_call 20; rw [← HW1.out]; refine HMS.out.mono ?_; rintro e w' ⟨rfl, rfl⟩; rw [HW1.out]))
            go_ret
            exact ⟨by have h := HSTEP.out; rw [HOK.out] at h; simp at h; rw [h]; rfl, by rw [← HW1.out]; exact HB1.out⟩
        · have tq : (x1 != f + 1 + (k : Int)) = true := by rw [bne_iff_ne]; exact hq
          have HQ := Lib.hid hq
          clear hq
          go_wp2_with fail
          go_ret
          exact ⟨by have h := HSTEP.out; rw [HOK.out, decide_eq_false HQ.out] at h; simp at h; rw [h]; rfl, HBE.out.alloc HBE.out.size _⟩
      · have ta : decide ((k : Int) < (n : Int)) = false := decide_eq_false (by omega)
        have tb : decide (k < n) = false := decide_eq_false hlt
        have HE := Lib.hid (show r = true by rw [← HOK.out, List.drop_eq_nil_of_le (by rw [HN.out]; omega)]; rfl)
        go_wp2_with fail
        go_ret
        exact ⟨by rw [HE.out]; rfl, HBE.out⟩
  · have t4 : ((n : Int) != s - f) = true := by rw [bne_iff_ne]; exact h3
    have HR : rightS l f s = false := by unfold rightS; rw [decide_eq_false (by rw [HN.out]; omega)]; rfl
    rw [HR]
    have f0 : 0 ≤ f := by omega
    have f1 : f ≤ 9007199254740991 := by omega
    have s0 : 0 ≤ s := by omega
    have s1 : s ≤ 9007199254740991 := by omega
    clear HR h3
    go_enter Try.func9, Try.ntmps9
    go_wp2_with fail
    go_ret
    exact ⟨rfl, Below.refl _ _⟩
end Go.Proofs.Ytfdibmcjjclgkaa.Tl
