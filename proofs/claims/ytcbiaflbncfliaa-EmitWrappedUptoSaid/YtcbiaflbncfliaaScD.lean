import Derived.Test.YtcbiaflbncfliaaScA
/- Contract of package scan's step. Written by tools/genScD.py. -/
namespace Go.Proofs.Ytcbiaflbncfliaa.Sc
open Go.RowKit
open Go.Proofs.Ytcbiaflbncfliaa.Utf

theorem Scr.move {B b : Nat} {s : ByteArray} {k : Int} {ts : List Tok} {w : World} (h : Scr B b s k ts w) (z : Int) : Scr B b s z ts (w.setCell ⟨b, 1, none⟩ (.int .i64 z)) := by
  obtain ⟨v, h1, h2, h3⟩ := h
  exact ⟨v, heap_setCell_same w b 1 _ _ (.int .i64 z) h1, own_other h2 h1 (by decide) ⟨b, 1, none⟩ rfl _, h3⟩
theorem Scr.below {B b : Nat} {s : ByteArray} {k : Int} {ts : List Tok} {w : World} (h : Scr B b s k ts w) : B ≤ b := by
  obtain ⟨_, _, _, h⟩ := h
  exact h
theorem getD_is {s : ByteArray} {k : Nat} {v : UInt8} (hk : k < s.size) (h : (s[k].toNat : Int) = (v.toNat : Int)) : s.data.toList.getD k 0 = v := by
  have := byt_get s k hk
  unfold byt at this
  rw [h] at this
  have h2 : (s.data.toList.getD k 0).toNat = v.toNat := by omega
  exact UInt8.toNat_inj.1 h2

set_option maxRecDepth 100000 in
set_option maxHeartbeats 2000000 in
theorem step_w (B b : Nat) (s : ByteArray) (k : Nat) (ts : List Tok) (w : World) (h : Scr B b s k ts w) (hB : B ≤ w.heap.size) (hs : s.size ≤ 65536) (hk : k < s.size)
    (hc : (s[k].toNat : Int) = 32 ∨ (s[k].toNat : Int) = 9 ∨ (s[k].toNat : Int) = 10 ∨ (s[k].toNat : Int) = 13) :
    Calls Try.prog 19 #[.pointer (some ⟨b, 0, none⟩)] w (Steps B b s ts (none, (k : Int) + 1, 0) w) := by
  obtain ⟨hlt, c0, c1, f1⟩ := h.cells
  have k0 : (0 : Int) ≤ (k : Int) := by omega
  have k1 : (k : Int) < (s.size : Int) := by omega
  rcases hc with hc | hc | hc | hc
  all_goals
    go_enter Try.func19, Try.ntmps19
    go_wp2_with fail
    go_quiet (fail)
    have hb2 : Below w.heap.size w (w.drewN nq) := below_drewN (Below.refl _ w) nq
    go_wp2_with fail
    go_ret2
    refine ⟨(hb2.mono hB).setCell h.below _, .inl ⟨rfl, rfl, ?_⟩⟩
    rw [show (ts ++ ((none, (k : Int) + 1, 0) : Option Tok × Int × Int).1.toList) = ts from List.append_nil _]
    exact (h.keep hb2).move _

set_option maxRecDepth 100000 in
set_option maxHeartbeats 2000000 in
theorem step_123 (B b : Nat) (s : ByteArray) (k : Nat) (ts : List Tok) (w : World) (h : Scr B b s k ts w) (hB : B ≤ w.heap.size) (hr : (ts.length + 1) * 40 ≤ 140737488355328) (hs : s.size ≤ 65536) (hk : k < s.size)
    (hc : (s[k].toNat : Int) = 123) :
    Calls Try.prog 19 #[.pointer (some ⟨b, 0, none⟩)] w (Steps B b s ts (some (1, 0, [s.data.toList.getD k 0], (k : Int)), (k : Int) + 1, 0) w) := by
  obtain ⟨hlt, c0, c1, f1⟩ := h.cells
  have k0 : (0 : Int) ≤ (k : Int) := by omega
  have k1 : (k : Int) < (s.size : Int) := by omega
  have hE : (Utf8.encode 123).data.toList = [s.data.toList.getD k 0] := by
    rw [getD_is (v := 123) hk hc]
    decide +kernel
  have HL := fun n (hw : Below w.heap.size w (w.drewN n)) => lay_any B b s k ts 1 0 (Utf8.encode 123) 0 ((k : Int) + 1) (w.drewN n) (h.keep hw) hr
  rw [hE] at HL
  clear hE
  go_enter Try.func19, Try.ntmps19
  go_wp2_with fail
  go_quiet (fail)
  have hb2 : Below w.heap.size w (w.drewN nq) := below_drewN (Below.refl _ w) nq
  go_wp2_with fail
  refine (HL nq hb2).mono ?_
  rintro e w2 ⟨rfl, hs2, hb3⟩
  go_wp2_with fail
  go_ret2
  exact ⟨(hb2.mono hB).trans hb3, .inl ⟨rfl, rfl, hs2⟩⟩

set_option maxRecDepth 100000 in
set_option maxHeartbeats 2000000 in
theorem step_125 (B b : Nat) (s : ByteArray) (k : Nat) (ts : List Tok) (w : World) (h : Scr B b s k ts w) (hB : B ≤ w.heap.size) (hr : (ts.length + 1) * 40 ≤ 140737488355328) (hs : s.size ≤ 65536) (hk : k < s.size)
    (hc : (s[k].toNat : Int) = 125) :
    Calls Try.prog 19 #[.pointer (some ⟨b, 0, none⟩)] w (Steps B b s ts (some (1, 0, [s.data.toList.getD k 0], (k : Int)), (k : Int) + 1, 0) w) := by
  obtain ⟨hlt, c0, c1, f1⟩ := h.cells
  have k0 : (0 : Int) ≤ (k : Int) := by omega
  have k1 : (k : Int) < (s.size : Int) := by omega
  have hE : (Utf8.encode 125).data.toList = [s.data.toList.getD k 0] := by
    rw [getD_is (v := 125) hk hc]
    decide +kernel
  have HL := fun n (hw : Below w.heap.size w (w.drewN n)) => lay_any B b s k ts 1 0 (Utf8.encode 125) 0 ((k : Int) + 1) (w.drewN n) (h.keep hw) hr
  rw [hE] at HL
  clear hE
  go_enter Try.func19, Try.ntmps19
  go_wp2_with fail
  go_quiet (fail)
  have hb2 : Below w.heap.size w (w.drewN nq) := below_drewN (Below.refl _ w) nq
  go_wp2_with fail
  refine (HL nq hb2).mono ?_
  rintro e w2 ⟨rfl, hs2, hb3⟩
  go_wp2_with fail
  go_ret2
  exact ⟨(hb2.mono hB).trans hb3, .inl ⟨rfl, rfl, hs2⟩⟩

set_option maxRecDepth 100000 in
set_option maxHeartbeats 2000000 in
theorem step_91 (B b : Nat) (s : ByteArray) (k : Nat) (ts : List Tok) (w : World) (h : Scr B b s k ts w) (hB : B ≤ w.heap.size) (hr : (ts.length + 1) * 40 ≤ 140737488355328) (hs : s.size ≤ 65536) (hk : k < s.size)
    (hc : (s[k].toNat : Int) = 91) :
    Calls Try.prog 19 #[.pointer (some ⟨b, 0, none⟩)] w (Steps B b s ts (some (1, 0, [s.data.toList.getD k 0], (k : Int)), (k : Int) + 1, 0) w) := by
  obtain ⟨hlt, c0, c1, f1⟩ := h.cells
  have k0 : (0 : Int) ≤ (k : Int) := by omega
  have k1 : (k : Int) < (s.size : Int) := by omega
  have hE : (Utf8.encode 91).data.toList = [s.data.toList.getD k 0] := by
    rw [getD_is (v := 91) hk hc]
    decide +kernel
  have HL := fun n (hw : Below w.heap.size w (w.drewN n)) => lay_any B b s k ts 1 0 (Utf8.encode 91) 0 ((k : Int) + 1) (w.drewN n) (h.keep hw) hr
  rw [hE] at HL
  clear hE
  go_enter Try.func19, Try.ntmps19
  go_wp2_with fail
  go_quiet (fail)
  have hb2 : Below w.heap.size w (w.drewN nq) := below_drewN (Below.refl _ w) nq
  go_wp2_with fail
  refine (HL nq hb2).mono ?_
  rintro e w2 ⟨rfl, hs2, hb3⟩
  go_wp2_with fail
  go_ret2
  exact ⟨(hb2.mono hB).trans hb3, .inl ⟨rfl, rfl, hs2⟩⟩

set_option maxRecDepth 100000 in
set_option maxHeartbeats 2000000 in
theorem step_93 (B b : Nat) (s : ByteArray) (k : Nat) (ts : List Tok) (w : World) (h : Scr B b s k ts w) (hB : B ≤ w.heap.size) (hr : (ts.length + 1) * 40 ≤ 140737488355328) (hs : s.size ≤ 65536) (hk : k < s.size)
    (hc : (s[k].toNat : Int) = 93) :
    Calls Try.prog 19 #[.pointer (some ⟨b, 0, none⟩)] w (Steps B b s ts (some (1, 0, [s.data.toList.getD k 0], (k : Int)), (k : Int) + 1, 0) w) := by
  obtain ⟨hlt, c0, c1, f1⟩ := h.cells
  have k0 : (0 : Int) ≤ (k : Int) := by omega
  have k1 : (k : Int) < (s.size : Int) := by omega
  have hE : (Utf8.encode 93).data.toList = [s.data.toList.getD k 0] := by
    rw [getD_is (v := 93) hk hc]
    decide +kernel
  have HL := fun n (hw : Below w.heap.size w (w.drewN n)) => lay_any B b s k ts 1 0 (Utf8.encode 93) 0 ((k : Int) + 1) (w.drewN n) (h.keep hw) hr
  rw [hE] at HL
  clear hE
  go_enter Try.func19, Try.ntmps19
  go_wp2_with fail
  go_quiet (fail)
  have hb2 : Below w.heap.size w (w.drewN nq) := below_drewN (Below.refl _ w) nq
  go_wp2_with fail
  refine (HL nq hb2).mono ?_
  rintro e w2 ⟨rfl, hs2, hb3⟩
  go_wp2_with fail
  go_ret2
  exact ⟨(hb2.mono hB).trans hb3, .inl ⟨rfl, rfl, hs2⟩⟩

set_option maxRecDepth 100000 in
set_option maxHeartbeats 2000000 in
theorem step_58 (B b : Nat) (s : ByteArray) (k : Nat) (ts : List Tok) (w : World) (h : Scr B b s k ts w) (hB : B ≤ w.heap.size) (hr : (ts.length + 1) * 40 ≤ 140737488355328) (hs : s.size ≤ 65536) (hk : k < s.size)
    (hc : (s[k].toNat : Int) = 58) :
    Calls Try.prog 19 #[.pointer (some ⟨b, 0, none⟩)] w (Steps B b s ts (some (1, 0, [s.data.toList.getD k 0], (k : Int)), (k : Int) + 1, 0) w) := by
  obtain ⟨hlt, c0, c1, f1⟩ := h.cells
  have k0 : (0 : Int) ≤ (k : Int) := by omega
  have k1 : (k : Int) < (s.size : Int) := by omega
  have hE : (Utf8.encode 58).data.toList = [s.data.toList.getD k 0] := by
    rw [getD_is (v := 58) hk hc]
    decide +kernel
  have HL := fun n (hw : Below w.heap.size w (w.drewN n)) => lay_any B b s k ts 1 0 (Utf8.encode 58) 0 ((k : Int) + 1) (w.drewN n) (h.keep hw) hr
  rw [hE] at HL
  clear hE
  go_enter Try.func19, Try.ntmps19
  go_wp2_with fail
  go_quiet (fail)
  have hb2 : Below w.heap.size w (w.drewN nq) := below_drewN (Below.refl _ w) nq
  go_wp2_with fail
  refine (HL nq hb2).mono ?_
  rintro e w2 ⟨rfl, hs2, hb3⟩
  go_wp2_with fail
  go_ret2
  exact ⟨(hb2.mono hB).trans hb3, .inl ⟨rfl, rfl, hs2⟩⟩

set_option maxRecDepth 100000 in
set_option maxHeartbeats 2000000 in
theorem step_44 (B b : Nat) (s : ByteArray) (k : Nat) (ts : List Tok) (w : World) (h : Scr B b s k ts w) (hB : B ≤ w.heap.size) (hr : (ts.length + 1) * 40 ≤ 140737488355328) (hs : s.size ≤ 65536) (hk : k < s.size)
    (hc : (s[k].toNat : Int) = 44) :
    Calls Try.prog 19 #[.pointer (some ⟨b, 0, none⟩)] w (Steps B b s ts (some (1, 0, [s.data.toList.getD k 0], (k : Int)), (k : Int) + 1, 0) w) := by
  obtain ⟨hlt, c0, c1, f1⟩ := h.cells
  have k0 : (0 : Int) ≤ (k : Int) := by omega
  have k1 : (k : Int) < (s.size : Int) := by omega
  have hE : (Utf8.encode 44).data.toList = [s.data.toList.getD k 0] := by
    rw [getD_is (v := 44) hk hc]
    decide +kernel
  have HL := fun n (hw : Below w.heap.size w (w.drewN n)) => lay_any B b s k ts 1 0 (Utf8.encode 44) 0 ((k : Int) + 1) (w.drewN n) (h.keep hw) hr
  rw [hE] at HL
  clear hE
  go_enter Try.func19, Try.ntmps19
  go_wp2_with fail
  go_quiet (fail)
  have hb2 : Below w.heap.size w (w.drewN nq) := below_drewN (Below.refl _ w) nq
  go_wp2_with fail
  refine (HL nq hb2).mono ?_
  rintro e w2 ⟨rfl, hs2, hb3⟩
  go_wp2_with fail
  go_ret2
  exact ⟨(hb2.mono hB).trans hb3, .inl ⟨rfl, rfl, hs2⟩⟩

set_option maxRecDepth 100000 in
set_option maxHeartbeats 2000000 in
theorem step_t (B b : Nat) (s : ByteArray) (k : Nat) (ts : List Tok) (w : World) (h : Scr B b s k ts w) (hB : B ≤ w.heap.size) (hr : (ts.length + 1) * 40 ≤ 140737488355328) (hs : s.size ≤ 65536) (hk : k < s.size)
    (hc : (s[k].toNat : Int) = 34) :
    Calls Try.prog 19 #[.pointer (some ⟨b, 0, none⟩)] w (Steps B b s ts (txT s.data.toList k) w) := by
  obtain ⟨hlt, c0, c1, f1⟩ := h.cells
  have k0 : (0 : Int) ≤ (k : Int) := by omega
  have k1 : (k : Int) < (s.size : Int) := by omega
  have HC := fun n (hw : Below w.heap.size w (w.drewN n)) => text_any B b s k ts (w.drewN n) (h.keep hw) (by have := hw.size; omega) hr hs
  generalize txT s.data.toList k = r at *
  obtain ⟨o, z, er⟩ := r
  go_enter Try.func19, Try.ntmps19
  go_wp2_with fail
  go_quiet (fail)
  have hb2 : Below w.heap.size w (w.drewN nq) := below_drewN (Below.refl _ w) nq
  go_wp2_with fail
  refine (HC nq hb2).mono ?_
  rintro e w2 ⟨hb3, ⟨he, rfl, hs2⟩ | ⟨he, rfl⟩⟩
  · go_wp2_with fail
    go_ret2
    exact ⟨(hb2.mono hB).trans hb3, .inl ⟨he, rfl, hs2⟩⟩
  · go_wp2_with fail
    go_ret2
    exact ⟨(hb2.mono hB).trans hb3, .inr ⟨he, rfl⟩⟩

set_option maxRecDepth 100000 in
set_option maxHeartbeats 2000000 in
theorem step_n (B b : Nat) (s : ByteArray) (k : Nat) (ts : List Tok) (w : World) (h : Scr B b s k ts w) (hB : B ≤ w.heap.size) (hr : (ts.length + 1) * 40 ≤ 140737488355328) (hs : s.size ≤ 65536) (hk : k < s.size)
    (hc : (s[k].toNat : Int) = 45 ∨ (s[k].toNat : Int) = 48 ∨ (s[k].toNat : Int) = 49 ∨ (s[k].toNat : Int) = 50 ∨ (s[k].toNat : Int) = 51 ∨ (s[k].toNat : Int) = 52 ∨ (s[k].toNat : Int) = 53 ∨ (s[k].toNat : Int) = 54 ∨ (s[k].toNat : Int) = 55 ∨ (s[k].toNat : Int) = 56 ∨ (s[k].toNat : Int) = 57) :
    Calls Try.prog 19 #[.pointer (some ⟨b, 0, none⟩)] w (Steps B b s ts (nmT s.data.toList k) w) := by
  obtain ⟨hlt, c0, c1, f1⟩ := h.cells
  have k0 : (0 : Int) ≤ (k : Int) := by omega
  have k1 : (k : Int) < (s.size : Int) := by omega
  have HC := fun n (hw : Below w.heap.size w (w.drewN n)) => number_any B b s k ts (w.drewN n) (h.keep hw) (by have := hw.size; omega) hr hs
  generalize nmT s.data.toList k = r at *
  obtain ⟨o, z, er⟩ := r
  rcases hc with hc | hc | hc | hc | hc | hc | hc | hc | hc | hc | hc
  all_goals
    go_enter Try.func19, Try.ntmps19
    go_wp2_with fail
    go_quiet (fail)
    have hb2 : Below w.heap.size w (w.drewN nq) := below_drewN (Below.refl _ w) nq
    go_wp2_with fail
    refine (HC nq hb2).mono ?_
    rintro e w2 ⟨hb3, ⟨he, rfl, hs2⟩ | ⟨he, rfl⟩⟩
    · go_wp2_with fail
      go_ret2
      exact ⟨(hb2.mono hB).trans hb3, .inl ⟨he, rfl, hs2⟩⟩
    · go_wp2_with fail
      go_ret2
      exact ⟨(hb2.mono hB).trans hb3, .inr ⟨he, rfl⟩⟩

set_option maxRecDepth 100000 in
set_option maxHeartbeats 2000000 in
theorem step_wTrue (B b : Nat) (s : ByteArray) (k : Nat) (ts : List Tok) (w : World) (h : Scr B b s k ts w) (hB : B ≤ w.heap.size) (hr : (ts.length + 1) * 40 ≤ 140737488355328) (hs : s.size ≤ 65536) (hk : k < s.size)
    (hc : (s[k].toNat : Int) = 116) :
    Calls Try.prog 19 #[.pointer (some ⟨b, 0, none⟩)] w (Steps B b s ts (wrd s.data.toList k wTrue) w) := by
  obtain ⟨hlt, c0, c1, f1⟩ := h.cells
  have k0 : (0 : Int) ≤ (k : Int) := by omega
  have k1 : (k : Int) < (s.size : Int) := by omega
  have HC : ∀ n, Below w.heap.size w (w.drewN n) → Calls Try.prog 32 #[.pointer (some ⟨b, 0, none⟩), .string ⟨#[116, 114, 117, 101]⟩] (w.drewN n) (Steps B b s ts (wrd s.data.toList k wTrue) (w.drewN n)) := fun n (hw : Below w.heap.size w (w.drewN n)) => word_any B b s ⟨#[116, 114, 117, 101]⟩ k ts (w.drewN n) (h.keep hw) (by have := hw.size; omega) hr hs hk (by decide)
  generalize wrd s.data.toList k wTrue = r at *
  obtain ⟨o, z, er⟩ := r
  go_enter Try.func19, Try.ntmps19
  go_wp2_with fail
  go_quiet (fail)
  have hb2 : Below w.heap.size w (w.drewN nq) := below_drewN (Below.refl _ w) nq
  go_wp2_with fail
  refine (HC nq hb2).mono ?_
  rintro e w2 ⟨hb3, ⟨he, rfl, hs2⟩ | ⟨he, rfl⟩⟩
  · go_wp2_with fail
    go_ret2
    exact ⟨(hb2.mono hB).trans hb3, .inl ⟨he, rfl, hs2⟩⟩
  · go_wp2_with fail
    go_ret2
    exact ⟨(hb2.mono hB).trans hb3, .inr ⟨he, rfl⟩⟩

set_option maxRecDepth 100000 in
set_option maxHeartbeats 2000000 in
theorem step_wFalse (B b : Nat) (s : ByteArray) (k : Nat) (ts : List Tok) (w : World) (h : Scr B b s k ts w) (hB : B ≤ w.heap.size) (hr : (ts.length + 1) * 40 ≤ 140737488355328) (hs : s.size ≤ 65536) (hk : k < s.size)
    (hc : (s[k].toNat : Int) = 102) :
    Calls Try.prog 19 #[.pointer (some ⟨b, 0, none⟩)] w (Steps B b s ts (wrd s.data.toList k wFalse) w) := by
  obtain ⟨hlt, c0, c1, f1⟩ := h.cells
  have k0 : (0 : Int) ≤ (k : Int) := by omega
  have k1 : (k : Int) < (s.size : Int) := by omega
  have HC : ∀ n, Below w.heap.size w (w.drewN n) → Calls Try.prog 32 #[.pointer (some ⟨b, 0, none⟩), .string ⟨#[102, 97, 108, 115, 101]⟩] (w.drewN n) (Steps B b s ts (wrd s.data.toList k wFalse) (w.drewN n)) := fun n (hw : Below w.heap.size w (w.drewN n)) => word_any B b s ⟨#[102, 97, 108, 115, 101]⟩ k ts (w.drewN n) (h.keep hw) (by have := hw.size; omega) hr hs hk (by decide)
  generalize wrd s.data.toList k wFalse = r at *
  obtain ⟨o, z, er⟩ := r
  go_enter Try.func19, Try.ntmps19
  go_wp2_with fail
  go_quiet (fail)
  have hb2 : Below w.heap.size w (w.drewN nq) := below_drewN (Below.refl _ w) nq
  go_wp2_with fail
  refine (HC nq hb2).mono ?_
  rintro e w2 ⟨hb3, ⟨he, rfl, hs2⟩ | ⟨he, rfl⟩⟩
  · go_wp2_with fail
    go_ret2
    exact ⟨(hb2.mono hB).trans hb3, .inl ⟨he, rfl, hs2⟩⟩
  · go_wp2_with fail
    go_ret2
    exact ⟨(hb2.mono hB).trans hb3, .inr ⟨he, rfl⟩⟩

set_option maxRecDepth 100000 in
set_option maxHeartbeats 2000000 in
theorem step_wNull (B b : Nat) (s : ByteArray) (k : Nat) (ts : List Tok) (w : World) (h : Scr B b s k ts w) (hB : B ≤ w.heap.size) (hr : (ts.length + 1) * 40 ≤ 140737488355328) (hs : s.size ≤ 65536) (hk : k < s.size)
    (hc : (s[k].toNat : Int) = 110) :
    Calls Try.prog 19 #[.pointer (some ⟨b, 0, none⟩)] w (Steps B b s ts (wrd s.data.toList k wNull) w) := by
  obtain ⟨hlt, c0, c1, f1⟩ := h.cells
  have k0 : (0 : Int) ≤ (k : Int) := by omega
  have k1 : (k : Int) < (s.size : Int) := by omega
  have HC : ∀ n, Below w.heap.size w (w.drewN n) → Calls Try.prog 32 #[.pointer (some ⟨b, 0, none⟩), .string ⟨#[110, 117, 108, 108]⟩] (w.drewN n) (Steps B b s ts (wrd s.data.toList k wNull) (w.drewN n)) := fun n (hw : Below w.heap.size w (w.drewN n)) => word_any B b s ⟨#[110, 117, 108, 108]⟩ k ts (w.drewN n) (h.keep hw) (by have := hw.size; omega) hr hs hk (by decide)
  generalize wrd s.data.toList k wNull = r at *
  obtain ⟨o, z, er⟩ := r
  go_enter Try.func19, Try.ntmps19
  go_wp2_with fail
  go_quiet (fail)
  have hb2 : Below w.heap.size w (w.drewN nq) := below_drewN (Below.refl _ w) nq
  go_wp2_with fail
  refine (HC nq hb2).mono ?_
  rintro e w2 ⟨hb3, ⟨he, rfl, hs2⟩ | ⟨he, rfl⟩⟩
  · go_wp2_with fail
    go_ret2
    exact ⟨(hb2.mono hB).trans hb3, .inl ⟨he, rfl, hs2⟩⟩
  · go_wp2_with fail
    go_ret2
    exact ⟨(hb2.mono hB).trans hb3, .inr ⟨he, rfl⟩⟩

set_option maxRecDepth 100000 in
set_option maxHeartbeats 2000000 in
theorem step_e (B b : Nat) (s : ByteArray) (k : Nat) (ts : List Tok) (w : World) (h : Scr B b s k ts w) (hB : B ≤ w.heap.size) (hk : k < s.size)
    (hc : (s[k].toNat : Int) ≠ 32 ∧ (s[k].toNat : Int) ≠ 9 ∧ (s[k].toNat : Int) ≠ 10 ∧ (s[k].toNat : Int) ≠ 13 ∧ (s[k].toNat : Int) ≠ 123 ∧ (s[k].toNat : Int) ≠ 125 ∧ (s[k].toNat : Int) ≠ 91 ∧ (s[k].toNat : Int) ≠ 93 ∧ (s[k].toNat : Int) ≠ 58 ∧ (s[k].toNat : Int) ≠ 44 ∧ (s[k].toNat : Int) ≠ 34 ∧ (s[k].toNat : Int) ≠ 45 ∧ (s[k].toNat : Int) ≠ 48 ∧ (s[k].toNat : Int) ≠ 49 ∧ (s[k].toNat : Int) ≠ 50 ∧ (s[k].toNat : Int) ≠ 51 ∧ (s[k].toNat : Int) ≠ 52 ∧ (s[k].toNat : Int) ≠ 53 ∧ (s[k].toNat : Int) ≠ 54 ∧ (s[k].toNat : Int) ≠ 55 ∧ (s[k].toNat : Int) ≠ 56 ∧ (s[k].toNat : Int) ≠ 57 ∧ (s[k].toNat : Int) ≠ 116 ∧ (s[k].toNat : Int) ≠ 102 ∧ (s[k].toNat : Int) ≠ 110) :
    Calls Try.prog 19 #[.pointer (some ⟨b, 0, none⟩)] w (Steps B b s ts (none, (k : Int), 40) w) := by
  obtain ⟨hlt, c0, c1, f1⟩ := h.cells
  have k0 : (0 : Int) ≤ (k : Int) := by omega
  have k1 : (k : Int) < (s.size : Int) := by omega
  obtain ⟨n32, n9, n10, n13, n123, n125, n91, n93, n58, n44, n34, n45, n48, n49, n50, n51, n52, n53, n54, n55, n56, n57, n116, n102, n110⟩ := hc
  have t32 : ((s[k].toNat : Int) == 32) = false := beq_eq_false_iff_ne.2 n32
  have t9 : ((s[k].toNat : Int) == 9) = false := beq_eq_false_iff_ne.2 n9
  have t10 : ((s[k].toNat : Int) == 10) = false := beq_eq_false_iff_ne.2 n10
  have t13 : ((s[k].toNat : Int) == 13) = false := beq_eq_false_iff_ne.2 n13
  have t123 : ((s[k].toNat : Int) == 123) = false := beq_eq_false_iff_ne.2 n123
  have t125 : ((s[k].toNat : Int) == 125) = false := beq_eq_false_iff_ne.2 n125
  have t91 : ((s[k].toNat : Int) == 91) = false := beq_eq_false_iff_ne.2 n91
  have t93 : ((s[k].toNat : Int) == 93) = false := beq_eq_false_iff_ne.2 n93
  have t58 : ((s[k].toNat : Int) == 58) = false := beq_eq_false_iff_ne.2 n58
  have t44 : ((s[k].toNat : Int) == 44) = false := beq_eq_false_iff_ne.2 n44
  have t34 : ((s[k].toNat : Int) == 34) = false := beq_eq_false_iff_ne.2 n34
  have t45 : ((s[k].toNat : Int) == 45) = false := beq_eq_false_iff_ne.2 n45
  have t48 : ((s[k].toNat : Int) == 48) = false := beq_eq_false_iff_ne.2 n48
  have t49 : ((s[k].toNat : Int) == 49) = false := beq_eq_false_iff_ne.2 n49
  have t50 : ((s[k].toNat : Int) == 50) = false := beq_eq_false_iff_ne.2 n50
  have t51 : ((s[k].toNat : Int) == 51) = false := beq_eq_false_iff_ne.2 n51
  have t52 : ((s[k].toNat : Int) == 52) = false := beq_eq_false_iff_ne.2 n52
  have t53 : ((s[k].toNat : Int) == 53) = false := beq_eq_false_iff_ne.2 n53
  have t54 : ((s[k].toNat : Int) == 54) = false := beq_eq_false_iff_ne.2 n54
  have t55 : ((s[k].toNat : Int) == 55) = false := beq_eq_false_iff_ne.2 n55
  have t56 : ((s[k].toNat : Int) == 56) = false := beq_eq_false_iff_ne.2 n56
  have t57 : ((s[k].toNat : Int) == 57) = false := beq_eq_false_iff_ne.2 n57
  have t116 : ((s[k].toNat : Int) == 116) = false := beq_eq_false_iff_ne.2 n116
  have t102 : ((s[k].toNat : Int) == 102) = false := beq_eq_false_iff_ne.2 n102
  have t110 : ((s[k].toNat : Int) == 110) = false := beq_eq_false_iff_ne.2 n110
  clear n32 n9 n10 n13 n123 n125 n91 n93 n58 n44 n34 n45 n48 n49 n50 n51 n52 n53 n54 n55 n56 n57 n116 n102 n110
  go_enter Try.func19, Try.ntmps19
  go_wp2_with fail
  go_quiet (fail)
  have hb2 : Below w.heap.size w (w.drewN nq) := below_drewN (Below.refl _ w) nq
  go_wp2_with fail
  go_ret2
  exact ⟨hb2.mono hB, .inr ⟨by show (40 : Int) ≠ 0; decide, rfl⟩⟩

theorem step_any (B b : Nat) (s : ByteArray) (k : Nat) (ts : List Tok) (w : World) (h : Scr B b s k ts w) (hB : B ≤ w.heap.size) (hr : (ts.length + 1) * 40 ≤ 140737488355328) (hs : s.size ≤ 65536) (hk : k < s.size) :
    Calls Try.prog 19 #[.pointer (some ⟨b, 0, none⟩)] w (Steps B b s ts (stp s.data.toList k) w) := by
  unfold stp
  rw [byt_get s k hk]
  by_cases c1 : isW (s[k].toNat : Int) = true
  · rw [if_pos c1]; exact step_w B b s k ts w h hB hs hk ((isW_iff _).1 c1)
  rw [if_neg c1]
  by_cases c2 : isMk (s[k].toNat : Int) = true
  · rw [if_pos c2]
    rcases (isMk_iff _).1 c2 with c | c | c | c | c | c
    · exact step_123 B b s k ts w h hB hr hs hk c
    · exact step_125 B b s k ts w h hB hr hs hk c
    · exact step_91 B b s k ts w h hB hr hs hk c
    · exact step_93 B b s k ts w h hB hr hs hk c
    · exact step_58 B b s k ts w h hB hr hs hk c
    · exact step_44 B b s k ts w h hB hr hs hk c
  rw [if_neg c2]
  by_cases c3 : (s[k].toNat : Int) = 34
  · rw [if_pos c3]; exact step_t B b s k ts w h hB hr hs hk c3
  rw [if_neg c3]
  by_cases c4 : isNm (s[k].toNat : Int) = true
  · rw [if_pos c4]
    refine step_n B b s k ts w h hB hr hs hk ?_
    have := (isNm_iff _).1 c4
    omega
  rw [if_neg c4]
  by_cases c5 : (s[k].toNat : Int) = 116
  · rw [if_pos c5]; exact step_wTrue B b s k ts w h hB hr hs hk c5
  rw [if_neg c5]
  by_cases c6 : (s[k].toNat : Int) = 102
  · rw [if_pos c6]; exact step_wFalse B b s k ts w h hB hr hs hk c6
  rw [if_neg c6]
  by_cases c7 : (s[k].toNat : Int) = 110
  · rw [if_pos c7]; exact step_wNull B b s k ts w h hB hr hs hk c7
  rw [if_neg c7]
  rw [isW_iff] at c1
  rw [isMk_iff] at c2
  rw [isNm_iff] at c4
  exact step_e B b s k ts w h hB hk (by omega)
end Go.Proofs.Ytcbiaflbncfliaa.Sc
