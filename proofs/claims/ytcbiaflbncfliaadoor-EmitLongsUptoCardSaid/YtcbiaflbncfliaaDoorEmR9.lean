import Derived.Test.YtcbiaflbncfliaaDoorEmR7
import Derived.Test.YtcbiaflbncfliaaDoorEmG
import Derived.Test.YtcbiaflbncfliaaDoorChTab
import Derived.Deep.MidRow
import Derived.OpenShut
/- The walk of EmitLongs. -/
namespace Go.Proofs.YtcbiaflbncfliaaDoor.Em
open Go.RowKit
open Go.Proofs.YtcbiaflbncfliaaDoor.Utf
open Go.Proofs.YtcbiaflbncfliaaDoor.Sc
open Go.Proofs.YtcbiaflbncfliaaDoor.Re
open Go.Proofs.YtcbiaflbncfliaaDoor.Ch (Tab)

theorem tab_pos {w : World} (h : Tab w) : 0 < w.heap.size := Nat.lt_of_le_of_lt (Nat.zero_le _) h.1
/-- a value in so many lists -/
def wrN : Nat → V → V
  | 0, v => v
  | n + 1, v => lsV [wrN n v]
theorem wrN_len (v : V) (h : lenV v) : ∀ n, lenV (wrN n v)
  | 0 => h
  | n + 1 => by rw [wrN]; unfold lsV; rw [lenV, lenL, lenL, lenL]; exact ⟨rfl, ⟨wrN_len v h n, trivial⟩, trivial⟩
theorem wrN_wf (v : V) (h : wfV v) : ∀ n, wfV (wrN n v)
  | 0 => h
  | n + 1 => by rw [wrN]; unfold lsV; rw [wfV, wfL, wfL, wfL]; exact ⟨by decide, by decide, ⟨wrN_wf v h n, trivial⟩, trivial⟩
theorem wrN_sz (v : V) : ∀ n, szU (wrN n v) = szU v + n
  | 0 => rfl
  | n + 1 => by rw [wrN]; unfold lsV; rw [szU, szUL, szUL, szUL]; have := wrN_sz v n; simp; omega
theorem wrN_mx {L : Nat} (v : V) (h : mx L v) : ∀ n, mx L (wrN n v)
  | 0 => h
  | n + 1 => by rw [wrN]; unfold lsV; rw [mx, mxL, mxL, mxL]; exact ⟨by simp, (fun x hx => by cases hx), ⟨wrN_mx v h n, trivial⟩, trivial⟩

/-- In w the five cells cs read as the value v, whatever block b holds. -/
def RdX (b : Nat) (w : World) (v : V) (cs : List Value) : Prop :=
  b < w.heap.size ∧ ∀ w' : World, w.heap.size ≤ w'.heap.size → (∀ k, k < w.heap.size → k ≠ b → w'.heap[k]? = w.heap[k]?) → RdA w' 0 w'.heap.size v cs
theorem RdX.now {b : Nat} {w : World} {v : V} {cs : List Value} (h : RdX b w v cs) : RdA w 0 w.heap.size v cs := h.2 w (Nat.le_refl _) fun _ _ _ => rfl
theorem cell_of_block {w w' : World} {p : Addr} (h : w'.heap[p.block]? = w.heap[p.block]?) : w'.cell? p = w.cell? p := by
  unfold World.cell?; rw [h]
theorem RdX.first {w w' : World} {v : V} {cs : List Value} (h : RdA w 0 w.heap.size v cs) (hb : Below w.heap.size w w') (hs : w.heap.size < w'.heap.size) : RdX w.heap.size w' v cs :=
  ⟨hs, fun w2 h1 h2 => RdA.keep (fun p _ hp => cell_of_block ((h2 p.block (by omega) (by omega)).trans (hb.block p.block hp))) (Nat.le_refl _) (by omega) v cs h⟩
theorem RdX.wrap {b : Nat} {w w' : World} {v : V} {cs : List Value} {T : TypeId} (h : RdX b w v cs) (hs : w'.heap.size = w.heap.size + 1) (hk : ∀ k, k < w.heap.size → k ≠ b → w'.heap[k]? = w.heap[k]?)
    (hn : w'.heap[w.heap.size]? = some (.cells cs.toArray T (0, 0))) : RdX b w' (lsV [v]) [.int .i64 5, .int .i64 0, .string ⟨#[]⟩, .slice (some ⟨w.heap.size, 0, none⟩) 1 1, .slice none 0 0] := by
  have hb := h.1
  refine ⟨by omega, fun w2 h1 h2 => ?_⟩
  unfold lsV
  rw [RdA]
  refine ⟨some ⟨w.heap.size, 0, none⟩, 1, none, 0, rfl, rfl, fun _ => ⟨w.heap.size, 0, rfl, Nat.zero_le _, by omega, ?_⟩, fun h => absurd h (by simp)⟩
  rw [RdAL, RdAL]
  refine ⟨⟨cs, fun j u hu => ?_, h.2 w2 (by omega) fun k hk1 hk2 => (h2 k (by omega) hk2).trans (hk k hk1 hk2)⟩, trivial⟩
  rw [cell_of_row w2 _ (0 + j) _ _ _ ((h2 w.heap.size (by omega) (by omega)).trans hn), Nat.zero_add]
  simpa using hu

/-- a box's five cells, written anew behind an alloc -/
theorem box_new {w : World} {b : Nat} {c0 c1 c2 c3 c4 : Value} {T : TypeId} (ob : Obj) (h : w.heap[b]? = some (.cells #[c0, c1, c2, c3, c4] T (0, 0))) (d0 d1 d2 d3 d4 : Value) :
    ((w.alloc ob).setCells b 0 [d0, d1, d2, d3, d4]).heap[b]? = some (.cells #[d0, d1, d2, d3, d4] T (0, 0)) ∧ ((w.alloc ob).setCells b 0 [d0, d1, d2, d3, d4]).heap.size = w.heap.size + 1 ∧
    (∀ k, k ≠ b → ((w.alloc ob).setCells b 0 [d0, d1, d2, d3, d4]).heap[k]? = (w.alloc ob).heap[k]?) ∧ (w.alloc ob).there b 0 5 ∧ ∀ B, B ≤ b → B ≤ w.heap.size → Below B w ((w.alloc ob).setCells b 0 [d0, d1, d2, d3, d4]) := by
  have hb : b < w.heap.size := by
    rcases Nat.lt_or_ge b w.heap.size with h' | h'
    · exact h'
    · rw [Array.getElem?_eq_none h'] at h; cases h
  have h1 : (w.alloc ob).heap[b]? = some (.cells #[c0, c1, c2, c3, c4] T (0, 0)) := (heap_alloc_old w ob hb).trans h
  have x0 := heap_setCell_same _ b 0 _ _ d0 h1
  have x1 := heap_setCell_same _ b 1 _ _ d1 x0
  have x2 := heap_setCell_same _ b 2 _ _ d2 x1
  have x3 := heap_setCell_same _ b 3 _ _ d3 x2
  have x4 := heap_setCell_same _ b 4 _ _ d4 x3
  refine ⟨x4, ?_, fun k hk => ?_, fun j hj => ⟨?_, ?_⟩, fun B hB hB2 => ?_⟩
  · simp [World.setCells, World.setCell]
  · simp only [World.setCells]
    rw [heap_setCell_other _ ⟨b, _, none⟩ k _ hk, heap_setCell_other _ ⟨b, _, none⟩ k _ hk, heap_setCell_other _ ⟨b, _, none⟩ k _ hk, heap_setCell_other _ ⟨b, _, none⟩ k _ hk, heap_setCell_other _ ⟨b, _, none⟩ k _ hk]
  · rw [cell_of_row _ b (0 + j) _ _ _ h1, Nat.zero_add]
    match j, hj with
    | 0, _ => rfl
    | 1, _ => rfl
    | 2, _ => rfl
    | 3, _ => rfl
    | 4, _ => rfl
  · simp [World.frozen?, h1]
  · exact ((((((Below.refl B w).alloc hB2 ob).setCell (p := ⟨b, 0, none⟩) hB d0).setCell (p := ⟨b, 1, none⟩) hB d1).setCell (p := ⟨b, 2, none⟩) hB d2).setCell (p := ⟨b, 3, none⟩) hB d3).setCell (p := ⟨b, 4, none⟩) hB d4

set_option maxRecDepth 100000 in
set_option maxHeartbeats 8000000 in
theorem longs_walk (a : V) (ca : List Value) (n : Int) (w : World) (ha : RdA w 0 w.heap.size a ca) (za : szU a ≤ 1048576) (wa : wfV a) (hn : (Lit.int .u8 n).wf = true) (hT : Tab w) :
    Calls Tryd.prog 3 #[.agg ca.toArray, .int .u8 n] w fun e w' => e = .returned (.bool true) ∧ Below w.heap.size w w' := by
  have la := len_of_RdA a ca ha
  have h0 := tab_pos hT
  have hn2 := bounds_u8 hn
  obtain ⟨N, hN, hN2⟩ : ∃ N : Nat, n % 40 = (N : Int) ∧ N < 40 := ⟨(n % 40).toNat, by omega, by omega⟩
  have HA := Lib.hid (And.intro la (And.intro wa za))
  obtain ⟨A, c, A2, c2, ea, _⟩ := ha.cells
  rw [ea]
  rw [ea] at ha
  generalize a.k = k1 at *
  generalize a.n = n1 at *
  generalize strOf a.s = s1 at *
  generalize a.l.length = l1 at *
  generalize a.ms.length = m1 at *
  obtain ⟨w0, hw0⟩ : ∃ w0, w0 = w.alloc (.cells #[.int .i64 k1, .int .i64 n1, .string s1, .slice A l1 c, .slice A2 m1 c2] 25) := ⟨_, rfl⟩
  have hb0 : Below w.heap.size w w0 := by rw [hw0]; exact (Below.refl _ _).alloc (Nat.le_refl _) _
  have hs0 : w0.heap.size = w.heap.size + 1 := by rw [hw0, szAlloc']
  have hx0 : RdX w.heap.size w0 a [.int .i64 k1, .int .i64 n1, .string s1, .slice A l1 c, .slice A2 m1 c2] := RdX.first ha hb0 (by omega)
  have hr0 : w0.heap[w.heap.size]? = some (.cells #[.int .i64 k1, .int .i64 n1, .string s1, .slice A l1 c, .slice A2 m1 c2] 25 (0, 0)) := by rw [hw0]; exact heap_alloc_new w _
  have HW0 := Lib.hid hw0; clear hw0
  have HB0 := Lib.hid hb0; clear hb0
  have HX0 := Lib.hid hx0; clear hx0
  have HR0 := Lib.hid hr0; clear hr0
  have HT := Lib.hid hT; clear hT
  clear ha ea la wa hs0 hn
  have hinf : (Tryd.prog.info? 25).map (·.size) = some 5 := by kernel_rfl
  have HINF := Lib.hid hinf; clear hinf
  go_enter Tryd.func3, Tryd.ntmps3
  go_wp2_with fail
  rw [← HW0.out]
  go_loopw [5] (fun i wr => ∃ kk : Nat, i = .int .i64 kk ∧ kk ≤ N ∧ ∃ (k1 n1 : Int) (s1 : ByteArray) (A : Option Addr) (l1 c : Nat) (A2 : Option Addr) (m1 c2 : Nat), RdX w.heap.size wr (wrN kk a) [.int .i64 k1, .int .i64 n1, .string s1, .slice A l1 c, .slice A2 m1 c2] ∧ wr.heap[w.heap.size]? = some (.cells #[.int .i64 k1, .int .i64 n1, .string s1, .slice A l1 c, .slice A2 m1 c2] 25 (0, 0)) ∧ Below w.heap.size w wr) (fun i _ => N - (intOf i).toNat)
  case atStart => exact ⟨0, rfl, by omega, k1, n1, s1, A, l1, c, A2, m1, c2, HX0.out, HR0.out, HB0.out⟩
  case round =>
    obtain ⟨kk, rfl, hkk, k1, n1, s1, A, l1, c, A2, m1, c2, hX, hr, hbw⟩ := hrel
    have f0 := (cell_of_row _ _ 0 _ _ _ hr).trans rfl
    have f1 := (cell_of_row _ _ 1 _ _ _ hr).trans rfl
    have f2 := (cell_of_row _ _ 2 _ _ _ hr).trans rfl
    have f3 := (cell_of_row _ _ 3 _ _ _ hr).trans rfl
    have f4 := (cell_of_row _ _ 4 _ _ _ hr).trans rfl
    have HX := Lib.hid hX; clear hX
    have HR := Lib.hid hr; clear hr
    have HB := Lib.hid hbw; clear hbw
    by_cases hlt : kk < N
    · have hd : decide ((kk : Int) < (N : Int)) = true := decide_eq_true (by omega)
      have hd2 : decide (kk < N) = true := decide_eq_true hlt
      obtain ⟨b1, b2, b3, b4, b5⟩ := box_new (.cells #[.int .i64 k1, .int .i64 n1, .string s1, .slice A l1 c, .slice A2 m1 c2] 25) HR.out (.int .i64 5) (.int .i64 0) (.string ⟨#[]⟩) (.slice (some ⟨wr.heap.size, 0, none⟩) 1 1) (.slice none 0 0)
      have b6 := b5 w.heap.size (Nat.le_refl _) HB.out.size
      have hX2 := RdX.wrap HX.out b2 (fun k hk hkb => (b3 k hkb).trans (heap_alloc_old wr _ hk)) ((b3 _ (by have := HX.out.1; omega)).trans (heap_alloc_new wr _))
      have HB1 := Lib.hid b1
      have HB4 := Lib.hid b4
      have HX2 := Lib.hid hX2
      have HB6 := Lib.hid (HB.out.trans b6)
      clear b1 b2 b3 b4 b5 b6 hX2
      go_wp2_with (guard_target = wpList _ _ _ (Oper.mk _ (Op.store _ _ _) _ _ _ _ :: _) _ _; refine wpList_store_mid rfl 25 _ _ rfl w.heap.size 0 #[.int .i64 5, .int .i64 0, .string ⟨#[]⟩, .slice (some ⟨wr.heap.size, 0, none⟩) 1 1, .slice none 0 0] rfl rfl HB4.out HINF.out (by simp [Value.oneCell']) ?_)
      go_roundw
      case rel => exact ⟨kk + 1, by go_num, by omega, _, _, _, _, _, _, _, _, _, HX2.out, HB1.out, HB6.out⟩
      case measure => simp [intOf]; omega
    · have hd : decide ((kk : Int) < (N : Int)) = false := decide_eq_false (by omega)
      have hd2 : decide (kk < N) = false := decide_eq_false hlt
      obtain ⟨la, wa, za⟩ := HA.out
      have lu := wrN_len a la kk
      have wu := wrN_wf a wa kk
      have zu := wrN_sz a kk
      have mu := wrN_mx a (mx_of_sz 1048576 a za) kk
      have su : szA 4611686018427387904 (wrN kk a) := szA_of _ _ wu (by omega)
      have R := RdX.now HX.out
      have Tr : Tab wr := HT.out.below HB.out h0 HB.out.size
      have hp := tab_pos Tr
      generalize wrN kk a = u at *
      have fw := few_any (ht u) u _ 3000 100 wr (Nat.le_refl _) su R (by omega) (by omega) (by omega) (by omega)
      have tx := fun w1 (h : Below wr.heap.size wr w1) => Text_any u _ 0 w1 lu (by omega) su (R.below h (Nat.le_refl _) h.size)
      have lg := fun w1 (h : Below wr.heap.size wr w1) => Long_any u _ 0 w1 lu (by omega) (R.below h (Nat.le_refl _) h.size)
      have rl := fun (hs : cnt u ≤ 3000) w1 (h : Below wr.heap.size wr w1) => rLong_any u _ w1 lu (len_small u lu (by omega)) (by omega) mu su (R.below h (Nat.le_refl _) h.size) (Tr.below h hp h.size) (by have := h.size; omega)
      have hiff := fun (hs : cnt u ≤ 3000) => okW_iff u (len_small u lu (by omega)) lu
      have hwr : chk u = 1 → ¬ allV u := wk_wrong u 1 0
      have hok : chk u = 0 → okW u := fun h => chk_okW h lu
      have hS : chk u = 0 → strOf (txtR u) = strOf (emV u) := fun h => by unfold txtR; rw [if_pos h]
      have hnil : strOf [] = ⟨#[]⟩ := rfl
      unfold GivesF at fw
      unfold GivesT at tx
      unfold GivesL at lg
      unfold GivesLr at rl
      rw [hnil] at lg rl
      have HX1 := Lib.hid HX.out.1
      clear hnil R Tr mu su zu wu lu HX HA la za wa hp
      generalize strOf (txtR u) = S at *
      generalize strOf (emV u) = E at *
      generalize chk u = y at *
      generalize okW u = OKW at *
      generalize allV u = ALL at *
      generalize cnt u = C at *
      have FW := Lib.hid fw; clear fw
      have TX := Lib.hid tx; clear tx
      have LG := Lib.hid lg; clear lg
      have RL := Lib.hid rl; clear rl
      have HI := Lib.hid (And.intro hiff (And.intro hwr (And.intro hok hS))); clear hiff hwr hok hS
      go_wp2_with fail
      refine FW.out.mono ?_
      rintro e w1 ⟨q, b, rfl, hb, hb1⟩
      have B1 := Lib.hid hb1; clear hb1
      have HBB := Lib.hid hb; clear hb
      clear f0 f1 f2 f3 f4
      go_wp2_with fail
      refine (awake_any6 _).mono ?_
      rintro e w2 ⟨rfl, hb2⟩
      have hB2 := B1.out.trans (hb2.mono B1.out.size)
      have B2 := Lib.hid hB2
      clear hb2
      cases b with
      | false =>
        clear hB2
        go_wp2_with fail
        refine (awake_any6 _).mono ?_
        rintro e w3 ⟨rfl, hb3⟩
        have B3 := Lib.hid (B2.out.trans (hb3.mono B2.out.size)); clear hb3
        go_wp2_with fail
        go_ret
        exact ⟨rfl, HB.out.trans (B3.out.mono HB.out.size)⟩
      | true =>
        have hC : C ≤ 3000 := by have := HBB.out rfl; omega
        have HCC := Lib.hid hC; clear hC HBB
        have hrow := (hB2.block w.heap.size HX1.out).trans HR.out
        have f0 := (cell_of_row _ _ 0 _ _ _ hrow).trans rfl
        have f1 := (cell_of_row _ _ 1 _ _ _ hrow).trans rfl
        have f2 := (cell_of_row _ _ 2 _ _ _ hrow).trans rfl
        have f3 := (cell_of_row _ _ 3 _ _ _ hrow).trans rfl
        have f4 := (cell_of_row _ _ 4 _ _ _ hrow).trans rfl
        clear hrow
        clear hB2
        go_wp2_with fail
        refine (TX.out w2 B2.out).mono ?_
        rintro e w3 ⟨rfl, hb3⟩
        have hB3 := B2.out.trans (hb3.mono B2.out.size)
        have B3 := Lib.hid hB3
        clear f0 f1 f2 f3 f4 hb3
        have hrow := (hB3.block w.heap.size HX1.out).trans HR.out
        have f0 := (cell_of_row _ _ 0 _ _ _ hrow).trans rfl
        have f1 := (cell_of_row _ _ 1 _ _ _ hrow).trans rfl
        have f2 := (cell_of_row _ _ 2 _ _ _ hrow).trans rfl
        have f3 := (cell_of_row _ _ 3 _ _ _ hrow).trans rfl
        have f4 := (cell_of_row _ _ 4 _ _ _ hrow).trans rfl
        clear hrow
        clear hB3
        go_wp2_with fail
        refine (LG.out w3 B3.out).mono ?_
        rintro e w4 ⟨hb4, hlong⟩
        have hB4 := B3.out.trans (hb4.mono B3.out.size)
        have B4 := Lib.hid hB4
        clear f0 f1 f2 f3 f4 hb4
        have hrow := (hB4.block w.heap.size HX1.out).trans HR.out
        have f0 := (cell_of_row _ _ 0 _ _ _ hrow).trans rfl
        have f1 := (cell_of_row _ _ 1 _ _ _ hrow).trans rfl
        have f2 := (cell_of_row _ _ 2 _ _ _ hrow).trans rfl
        have f3 := (cell_of_row _ _ 3 _ _ _ hrow).trans rfl
        have f4 := (cell_of_row _ _ 4 _ _ _ hrow).trans rfl
        clear hrow
        clear hB4
        obtain ⟨L, rfl, hL⟩ : ∃ L : ByteArray, e = .returned (.string L) ∧ ((OKW ∧ L = E) ∨ (¬ OKW ∧ L = ⟨#[]⟩)) := by
          rcases hlong with ⟨h1, h2⟩ | ⟨h1, h2⟩
          · exact ⟨_, h2, .inl ⟨h1, rfl⟩⟩
          · exact ⟨_, h2, .inr ⟨h1, rfl⟩⟩
        have HL := Lib.hid hL; clear hL hlong
        go_wp2_with fail
        refine (RL.out HCC.out w4 B4.out).mono ?_
        rintro e w5 ⟨hb5, hlong⟩
        have B5 := Lib.hid (B4.out.trans (hb5.mono B4.out.size)); clear hb5
        clear f0 f1 f2 f3 f4
        have hiff := HI.out.1 HCC.out
        obtain ⟨L2, rfl, hL2⟩ : ∃ L2 : ByteArray, e = .returned (.string L2) ∧ L2 = L := by
          rcases hlong with ⟨h1, h2⟩ | ⟨h1, h2⟩ <;> rcases HL.out with ⟨h3, h4⟩ | ⟨h3, h4⟩
          · exact ⟨_, h2, h4.symm⟩
          · exact absurd (hiff.2 h1) h3
          · exact absurd (hiff.1 h3) h1
          · exact ⟨_, h2, h4.symm⟩
        subst hL2
        clear hlong
        have tt : (L2.toList == L2.toList) = true := by rw [beq_iff_eq]
        by_cases hy0 : y = 0
        · have hs : S = L2 := by
            rcases HL.out with ⟨h3, h4⟩ | ⟨h3, h4⟩
            · rw [HI.out.2.2.2 hy0, h4]
            · exact absurd (HI.out.2.2.1 hy0) h3
          subst hs hy0
          clear hiff
          go_wp2_with fail
          go_ret
          exact ⟨rfl, HB.out.trans (B5.out.mono HB.out.size)⟩
        · have t0 : (y != 0) = true := by rw [bne_iff_ne]; exact hy0
          by_cases hy1 : y = 1
          · have hs : L2 = ⟨#[]⟩ := by
              rcases HL.out with ⟨h3, h4⟩ | ⟨h3, h4⟩
              · exact absurd (hiff.1 h3) (HI.out.2.1 hy1)
              · exact h4
            subst hs hy1
            clear hiff
            go_wp2_with fail
            go_ret
            exact ⟨rfl, HB.out.trans (B5.out.mono HB.out.size)⟩
          · have t1 : (y != 1) = true := by rw [bne_iff_ne]; exact hy1
            clear hiff
            go_wp2_with fail
            go_ret
            exact ⟨rfl, HB.out.trans (B5.out.mono HB.out.size)⟩
end Go.Proofs.YtcbiaflbncfliaaDoor.Em
