/- Merged: FoT. -/
import Derived.Test.YtjbaogoapobhbaaDoorTt5
import Derived.Test.YtjbaogoapobhbaaDoorTt6
import Derived.Test.YtjbaogoapobhbaaDoorTt8
import Derived.Lib.OthersKept
import Derived.Laws.RangeAny
import Derived.Laws.Runes
import Derived.BigQuiet
import Derived.IntWalk
import Derived.Deep.LoopGhost
import Derived.WalkMore
import Derived.Lib.QuoteLoop
namespace Go.Proofs.YtjbaogoapobhbaaDoor.Fo
open Go.Proofs Go.RowKit
open Go.Proofs.YtjbaogoapobhbaaDoor.Utf

set_option maxRecDepth 100000 in
set_option maxHeartbeats 1000000 in
theorem byteIdx_any (s : ByteArray) (c : Int) (w : World) : Calls Tryd.prog 60 #[.string s, .int .u8 c] w fun e w' => e = .returned (.int .i64 (Lib.indexByte s.data.toList c.toNat.toUInt8)) ∧ w = w' := by
  have HC := Lib.hid (fun W => Wo.litIdx_any s c W)
  generalize Lib.indexByte s.data.toList c.toNat.toUInt8 = r at *
  go_enter Tryd.func60, Tryd.ntmps60
  go_wp2_with fail
  refine (HC.out _).mono ?_
  rintro e w1 ⟨rfl, rfl⟩
  go_wp2_with fail
  go_ret
  exact ⟨rfl, rfl⟩
set_option maxRecDepth 100000 in
set_option maxHeartbeats 1000000 in
theorem valid_any (r : Int) (h : 0 ≤ r) (hv : r < 55296 ∨ (57343 < r ∧ r ≤ 1114111)) (w : World) : Calls Tryd.prog 61 #[.int .i32 r] w fun e w' => e = .returned (.bool true) ∧ w = w' := by
  go_enter Tryd.func61, Tryd.ntmps61
  go_wp2
  all_goals first
    | (go_ret; exact ⟨rfl, rfl⟩)
    | (exfalso; omega)
    | (exfalso; simp_all; omega)
set_option maxRecDepth 100000 in
set_option maxHeartbeats 1000000 in
theorem shortSet_any (n : Int) (w : World) : Calls Tryd.prog 53 #[.int .i64 n] w fun e w' => e = .returned (.bool (decide (8 < n))) ∧ w = w' := by
  go_enter Tryd.func53, Tryd.ntmps53
  go_wp2
  go_ret
  exact ⟨rfl, rfl⟩
abbrev sgn : ByteArray := ⟨#[32, 34]⟩
set_option maxRecDepth 100000 in
set_option maxHeartbeats 1000000 in
theorem rune_low (c : Int) (h0 : 0 ≤ c) (h1 : c < 128) (w : World) : Calls Tryd.prog 52 #[.string sgn, .int .i32 c] w fun e w' => e = .returned (.int .i64 (Lib.indexByte [32, 34] c.toNat.toUInt8)) ∧ Below w.heap.size w w' := by
  have HC := Lib.hid (fun W => byteIdx_any sgn c W)
  have t1 : decide ((0 : Int) ≤ c) = true := decide_eq_true h0
  have t2 : decide (c < 128) = true := decide_eq_true h1
  have t3 : IntKind.u8.wrap c = c := by unfold IntKind.wrap; simp [IntKind.bits, IntKind.signed]; omega
  have e0 : (sgn : ByteArray).data.toList = [32, 34] := rfl
  rw [e0] at HC
  clear e0
  generalize Lib.indexByte [32, 34] c.toNat.toUInt8 = r at *
  go_enter Tryd.func52, Tryd.ntmps52
  go_wp2_with (go_at_call 60; refine (HC.out _).mono ?_; rintro e w' ⟨rfl, rfl⟩)
  go_ret
  exact ⟨rfl, Below.refl _ _⟩
set_option maxRecDepth 100000 in
set_option maxHeartbeats 1000000 in
theorem rune_err (w : World) : Calls Tryd.prog 52 #[.string sgn, .int .i32 65533] w fun e w' => e = .returned (.int .i64 (-1)) ∧ Below w.heap.size w w' := by
  obtain ⟨s, hs⟩ : ∃ s : ByteArray, s = sgn := ⟨_, rfl⟩
  have n0 : ∀ ty, (Instr.next (.pointer (some ⟨w.heap.size, 0, none⟩)) true ty).run Tryd.prog (w.iter s 0) = .ok (.tuple #[.bool true, .int .i64 0, .int .i32 32]) (w.iter s 1) := fun ty => by subst hs; exact run_next_ascii w sgn 0 ty (by decide) (by decide)
  have n1 : ∀ ty, (Instr.next (.pointer (some ⟨w.heap.size, 0, none⟩)) true ty).run Tryd.prog (w.iter s 1) = .ok (.tuple #[.bool true, .int .i64 1, .int .i32 34]) (w.iter s 2) := fun ty => by subst hs; exact run_next_ascii w sgn 1 ty (by decide) (by decide)
  have n2 : ∀ ty, (Instr.next (.pointer (some ⟨w.heap.size, 0, none⟩)) true ty).run Tryd.prog (w.iter s 2) = .ok (.tuple #[.bool false]) (w.iter s 2) := fun ty => by subst hs; exact run_next_end w sgn 2 ty (by decide)
  rw [← hs]
  clear hs
  go_enter Tryd.func52, Tryd.ntmps52
  go_wp2_with fail
  go_loopg [5, 6] 2 (fun g _ _ wx => ∃ i : Nat, i + g = 2 ∧ wx = w.iter s i)
  case atStart => exact ⟨0, by omega, rfl⟩
  case round =>
    obtain ⟨i, hig, rfl⟩ := hrel
    have hi : (i = 0 ∧ gk = 2) ∨ (i = 1 ∧ gk = 1) ∨ (i = 2 ∧ gk = 0) := by omega
    rcases hi with ⟨rfl, rfl⟩ | ⟨rfl, rfl⟩ | ⟨rfl, rfl⟩
    · go_wp2_with fail
      go_roundg 1
      case measure => omega
      case rel => exact ⟨1, by omega, rfl⟩
    · go_wp2_with fail
      go_roundg 0
      case measure => omega
      case rel => exact ⟨2, by omega, rfl⟩
    · go_wp2_with fail
      go_ret
      exact ⟨rfl, (Below.refl _ _).alloc (Nat.le_refl _) _⟩
set_option maxRecDepth 100000 in
set_option maxHeartbeats 2000000 in
theorem rune_high (c : Int) (h0 : 128 ≤ c) (hv : c < 55296 ∨ (57343 < c ∧ c ≤ 1114111)) (hne : c ≠ 65533) (w : World) : Calls Tryd.prog 52 #[.string sgn, .int .i32 c] w fun e w' => e = .returned (.int .i64 (-1)) ∧ Below w.heap.size w w' := by
  have HV := Lib.hid (fun W => valid_any c (by omega) hv W)
  have he := encode_facts c (by rw [validRune_eq]; simp [validRune]; omega) h0
  have t1 : decide ((0 : Int) ≤ c) = true := decide_eq_true (by omega)
  have t2 : decide (c < 128) = false := decide_eq_false (by omega)
  have t3 : (c == 65533) = false := by simpa using hne
  have hcv : ∀ W : World, (convert 21 9 (.int .i32 c)).run Tryd.prog W = .ok (.string (Utf8.encode c)) W := fun W => run_convert_int_string W _ _ .i32 c (by kernel_rfl) Tryd.underlying9
  generalize Utf8.encode c = E at *
  obtain ⟨e1, e2, e3⟩ := he
  obtain ⟨n, hn⟩ : ∃ n, E.size = n + 1 := ⟨E.size - 1, by omega⟩
  have hx : 128 ≤ (E[n]'(by omega)).toNat := by
    have := e3 (by omega)
    simpa [hn] using this
  clear e3 hv hne
  have s1 : ((E.size : Nat) : Int) - 1 = (n : Int) := by omega
  have k0 : (0 : Int) ≤ (n : Int) := by omega
  have k1 : (n : Int) < (E.size : Int) := by omega
  have k2 : ((n : Int)).toNat = n := by omega
  have i64 : IntKind.i64.wrap ((E.size : Int) - 1) = (n : Int) := by rw [s1]; exact wrap_small _ (by omega) (by omega)
  by_cases h2 : n = 1
  · subst h2
    obtain ⟨x, hxe⟩ : ∃ x : UInt8, E[1]'(by omega) = x := ⟨_, rfl⟩
    rw [hxe] at hx
    have q1 : (((sgn[1]'(by decide)).toNat : Int) != (x.toNat : Int)) = true := by
      have : ((sgn[1]'(by decide)).toNat : Int) = 34 := by decide
      rw [this]; simp; omega
    have q3 : Lib.indexByte ([] : List UInt8) x = -1 := rfl
    have w2 : IntKind.i64.wrap 2 = 2 := by decide
    have z1 : (2 : Int) ≤ (sgn.size : Int) := by decide
    have z2 : (sgn.size : Int) = 2 := by decide
    have HI := Lib.hid (fun X W => byteIdx_any X (x.toNat : Int) W)
    go_enter Tryd.func52, Tryd.ntmps52
    go_wp2_with (go_at_call 61; refine (HV.out _).mono ?_; rintro e w' ⟨rfl, rfl⟩)
    go_step3
    go_wp2_with fail
    go_loopw [9, 10] (fun i _ wr => i = .int .i64 1 ∧ Aside (wr = w)) (fun _ _ _ => 0)
    case atStart => exact ⟨rfl, rfl⟩
    case round =>
      obtain ⟨rfl, hw⟩ := hrel
      obtain rfl : w = wr := hw.out.symm
      go_wp2_with fail
      go_step3
      go_wp2_with (go_quiet (fail))
      have HB := Lib.hid (show Below w.heap.size w (w.drewN nq) from ⟨rfl, rfl, rfl, Nat.le_refl _, fun _ _ => rfl⟩)
      generalize w.drewN nq = w2 at *
      go_wp2_with (go_quiet ((go_at_call 60; refine Calls.quiet_of_same ((HI.out _ _).mono fun e w' h => ⟨h.1, h.2.symm⟩))))
      rw [Exit.noGoto_ret]
      simp (zetaDelta := true) only [Exit.inBlock, Exit.noGoto_ret, Exit.then]
      go_ret
      exact ⟨rfl, HB.out.trans ⟨rfl, rfl, rfl, Nat.le_refl _, fun _ _ => rfl⟩⟩
  · have t6 : decide ((n : Int) < 2) = false := decide_eq_false (by omega)
    have t7 : decide (n < 2) = false := decide_eq_false (by omega)
    go_enter Tryd.func52, Tryd.ntmps52
    go_wp2_with (go_at_call 61; refine (HV.out _).mono ?_; rintro e w' ⟨rfl, rfl⟩)
    go_step3
    go_wp2_with fail
    go_loopw [9, 10] (fun i _ wr => i = .int .i64 n ∧ Aside (wr = w)) (fun _ _ _ => 0)
    case atStart => exact ⟨rfl, rfl⟩
    case round =>
      obtain ⟨rfl, hw⟩ := hrel
      obtain rfl : w = wr := hw.out.symm
      go_wp2_with fail
      go_ret
      exact ⟨rfl, Below.refl _ _⟩
theorem rune_any (c : Int) (h0 : 128 ≤ c) (hv : c < 55296 ∨ (57343 < c ∧ c ≤ 1114111)) (w : World) : Calls Tryd.prog 52 #[.string sgn, .int .i32 c] w fun e w' => e = .returned (.int .i64 (-1)) ∧ Below w.heap.size w w' := by
  by_cases h : c = 65533
  · subst h; exact rune_err w
  · exact rune_high c h0 hv h w
theorem hi_no (b : UInt8) (h : 128 ≤ b.toNat) : ([32, 34] : List UInt8).contains b = false := by
  rw [stop_chars]
  cases e : stopB b with
  | false => rfl
  | true => rcases (stop_iff b).1 e with rfl | rfl <;> simp at h
theorem get_bang (s : ByteArray) (i : Nat) (h : i < s.size) : s.get! i = s[i]'h := by
  have := get_at s i h
  rwa [Nat.add_zero] at this
theorem dec_facts (s : ByteArray) (i : Nat) (h : i < s.size) (hb : 128 ≤ (s[i]'h).toNat) :
    128 ≤ (Utf8.decode s i).1 ∧ ((Utf8.decode s i).1 < 55296 ∨ (57343 < (Utf8.decode s i).1 ∧ (Utf8.decode s i).1 ≤ 1114111)) ∧ 1 ≤ (Utf8.decode s i).2 ∧ i + (Utf8.decode s i).2 ≤ s.size ∧
      ∀ (j : Nat) b, i ≤ j → j < i + (Utf8.decode s i).2 → s.data.toList[j]? = some b → 128 ≤ b.toNat := by
  have lt := fun k => (s.get! k).toNat_lt
  have h1 := Lib.decodeN_valid (s.size - i) (s.get! i).toNat (s.get! (i + 1)).toNat (s.get! (i + 2)).toNat (s.get! (i + 3)).toNat (lt i)
  have h2 := dec_hi (s.size - i) (s.get! i).toNat (s.get! (i + 1)).toNat (s.get! (i + 2)).toNat (s.get! (i + 3)).toNat (lt i) (by rw [get_bang s i h]; exact hb)
  obtain ⟨w1, w2, w3, w4, w5, w6⟩ := dec_w (s.size - i) (s.get! i).toNat (s.get! (i + 1)).toNat (s.get! (i + 2)).toNat (s.get! (i + 3)).toNat (by omega)
  rw [← Lib.decode_at] at h1 h2 w1 w2 w3 w4 w5 w6
  generalize Utf8.decode s i = d at *
  refine ⟨h2, h1, w1, by omega, fun j b hj1 hj2 hbj => ?_⟩
  have hjs : j < s.size := by omega
  have e : s.get! j = b := by
    rw [get_bang s j hjs]
    have := Lib.data_getElem? s j hjs
    rw [hbj] at this
    exact (Option.some.inj this).symm
  have hj : j = i ∨ j = i + 1 ∨ j = i + 2 ∨ j = i + 3 := by omega
  rcases hj with rfl | rfl | rfl | rfl
  · rw [← e, get_bang s j h]; exact hb
  · rw [← e]; exact w4 (by omega)
  · rw [← e]; exact w5 (by omega)
  · rw [← e]; exact w6 (by omega)
theorem no_more {s : List UInt8} {i k : Nat} (h : Lib.NoAny s [32, 34] i) (hb : ∀ (j : Nat) b, i ≤ j → j < i + k → s[j]? = some b → 128 ≤ b.toNat) : Lib.NoAny s [32, 34] (i + k) := fun j b hj hbj => by
  by_cases hji : j < i
  · exact h j b hji hbj
  · exact hi_no b (hb j b (by omega) hj hbj)
set_option maxRecDepth 100000 in
set_option maxHeartbeats 2000000 in
theorem short_any (s : ByteArray) (w : World) (h8 : s.size ≤ 8) : Calls Tryd.prog 41 #[.string s, .string sgn] w fun e w' => e = .returned (.int .i64 (Lib.indexAny s.data.toList [32, 34])) ∧ Below w.heap.size w w' := by
  have HS := Lib.hid (fun W => shortSet_any (s.size : Int) W)
  have c1 : decide ((8 : Int) < (s.size : Int)) = false := decide_eq_false (by omega)
  have z1 : (sgn.size : Int) = 2 := rfl
  have z2 : sgn.toList.isEmpty = false := by rw [ByteArray.toList_eq]; rfl
  have z3 : (sgn.toList == []) = false := by rw [ByteArray.toList_eq]; rfl
  have z4 : sgn.toList = [32, 34] := by rw [ByteArray.toList_eq]
  have HLOW := Lib.hid (fun (x : UInt8) (hx : x.toNat < 128) W => rune_low (x.toNat : Int) (by omega) (by omega) W)
  have HHIGH := Lib.hid (fun (c : Int) (h0 : 128 ≤ c) (hv : c < 55296 ∨ (57343 < c ∧ c ≤ 1114111)) W => rune_any c h0 hv W)
  go_enter Tryd.func41, Tryd.ntmps41
  go_wp2_with (go_at_call 53; refine (HS.out _).mono ?_; rintro e w' ⟨rfl, rfl⟩)
  go_loopg [9, 10] s.size (fun g _ _ wx => ∃ i : Nat, i + g = s.size ∧ Aside (wx.heap[w.heap.size]? = some (.stringIter s i)) ∧ Aside (Below w.heap.size w wx) ∧ Aside (Lib.NoAny s.data.toList [32, 34] i))
  case atStart => exact ⟨0, by omega, (show _ = _ from World.iter_heap w s 0), (show Below _ _ _ from (Below.refl _ _).alloc (Nat.le_refl _) _), (show Lib.NoAny _ _ _ from Lib.NoAny.zero _ _)⟩
  case round =>
    obtain ⟨i, hig, hk, hbel, hno⟩ := hrel
    cases gk with
    | zero =>
      obtain rfl : i = s.size := by omega
      have hnx := fun ty => Lib.run_next_end_at (P := Tryd.prog) wr w.heap.size s s.size ty hk.out (by omega)
      go_wp2_with fail
      go_ret
      exact ⟨by rw [Lib.indexAny_none (by rw [← Lib.size_eq]; exact hno.out)]; rfl, hbel.out⟩
    | succ g =>
      have hi : i < s.size := by omega
      obtain ⟨x, hx⟩ : ∃ x : UInt8, s[i]'hi = x := ⟨_, rfl⟩
      have HX := Lib.hid (show s.data.toList[i]? = some x by rw [← hx]; exact Lib.data_getElem? s i hi)
      by_cases h128 : x.toNat < 128
      · have hnx := fun ty => Lib.run_next_ascii_at (P := Tryd.prog) wr w.heap.size s i ty hk.out hi (by rw [hx]; exact h128)
        rw [hx] at hnx
        have HW1 := Lib.hid (Lib.iterAt_heap wr w.heap.size s i (i + 1) hk.out)
        have HW2 := Lib.hid (Lib.below_iterAt hbel.out (Nat.le_refl _) s (i + 1))
        generalize wr.iterAt w.heap.size s (i + 1) = w2 at *
        have HC := Lib.hid (HLOW.out x h128 w2)
        have hcon := Lib.contains_iff_indexByte [32, 34] x
        have hback : ((x.toNat : Int)).toNat.toUInt8 = x := by simp
        rw [hback] at HC
        generalize Lib.indexByte [32, 34] x = r at *
        clear hx hback
        cases hin : ([32, 34] : List UInt8).contains x
        · rw [hin] at hcon
          have q1 : decide (r ≥ 0) = false := hcon.symm
          have q2 : decide (0 ≤ r) = false := hcon.symm
          have HIN := Lib.hid hin
          clear hcon hin
          go_wp2_with fail
          refine HC.out.mono ?_
          rintro e w3 ⟨rfl, hb3⟩
          have HB3 := Lib.hid (HW2.out.trans (hb3.mono HW2.out.size))
          have HK3 := Lib.hid ((hb3.block _ (Array.getElem?_eq_some_iff.1 HW1.out).1).trans HW1.out)
          clear hb3
          go_wp2_with fail
          go_roundg g
          case measure => omega
          case rel => exact ⟨i + 1, by omega, HK3.out, HB3.out, hno.out.succ HX.out HIN.out⟩
        · rw [hin] at hcon
          have q1 : decide (r ≥ 0) = true := hcon.symm
          have q2 : decide (0 ≤ r) = true := hcon.symm
          have HIN := Lib.hid hin
          clear hcon hin
          go_wp2_with fail
          refine HC.out.mono ?_
          rintro e w3 ⟨rfl, hb3⟩
          have HB3 := Lib.hid (HW2.out.trans (hb3.mono HW2.out.size))
          clear hb3
          go_wp2_with fail
          go_ret
          exact ⟨by rw [Lib.indexAny_hit hno.out HX.out HIN.out]; rfl, HB3.out⟩
      · obtain ⟨f1, f2, f3, f4, f5⟩ := dec_facts s i hi (by rw [hx]; omega)
        have hnx := fun ty => Lib.run_next_any_at (P := Tryd.prog) wr w.heap.size s i ty hk.out hi
        obtain ⟨c, hc⟩ : ∃ c : Nat, (Utf8.decode s i).1 = c := ⟨_, rfl⟩
        obtain ⟨k, hkk⟩ : ∃ k : Nat, (Utf8.decode s i).2 = k := ⟨_, rfl⟩
        rw [hc, hkk] at hnx
        rw [hc] at f1 f2
        rw [hkk] at f3 f4 f5
        have HW1 := Lib.hid (Lib.iterAt_heap wr w.heap.size s i (i + k) hk.out)
        have HW2 := Lib.hid (Lib.below_iterAt hbel.out (Nat.le_refl _) s (i + k))
        have HN := Lib.hid (no_more hno.out f5)
        generalize wr.iterAt w.heap.size s (i + k) = w2 at *
        have HC := Lib.hid (HHIGH.out (c : Int) (by omega) (by omega) w2)
        clear hx f5 f1 f2 hc hkk
        go_wp2_with fail
        refine HC.out.mono ?_
        rintro e w3 ⟨rfl, hb3⟩
        have HB3 := Lib.hid (HW2.out.trans (hb3.mono HW2.out.size))
        have HK3 := Lib.hid ((hb3.block _ (Array.getElem?_eq_some_iff.1 HW1.out).1).trans HW1.out)
        clear hb3
        go_wp2_with fail
        go_roundg (g + 1 - k)
        case measure => omega
        case rel => exact ⟨i + k, by omega, HK3.out, HB3.out, HN.out⟩
theorem indexAny_any (s : ByteArray) (w : World) (hs : s.size < 4294967281) : Calls Tryd.prog 41 #[.string s, .string sgn] w fun e w' => e = .returned (.int .i64 (Lib.indexAny s.data.toList [32, 34])) ∧ Below w.heap.size w w' := by
  by_cases h : s.size ≤ 8
  · exact short_any s w h
  · refine long_any s sgn w (by decide) (by omega) hs (by decide) fun j b hj => ?_
    have h2 : (sgn : ByteArray).data.toList = [32, 34] := rfl
    rw [h2] at hj
    rcases j with _ | _ | j
    · simp at hj; subst hj; decide
    · simp at hj; subst hj; decide
    · simp at hj
end Go.Proofs.YtjbaogoapobhbaaDoor.Fo
