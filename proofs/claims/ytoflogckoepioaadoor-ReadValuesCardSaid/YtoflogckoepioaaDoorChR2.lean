import Derived.Test.YtoflogckoepioaaDoorChR
import Derived.Test.YtoflogckoepioaaDoorUtfA
import Derived.Deep.QuietTactic
import Derived.BigQuiet
/- Contract of the document's answer for layer 2: Escape. -/
namespace Go.Proofs.YtoflogckoepioaaDoor.Ch
open Go.RowKit
open Go.Proofs.YtoflogckoepioaaDoor.Utf

/-- the letters behind a stroke, and the points that they stand for -/
def tabL (k : Nat) : Int := [34, 92, 47, 98, 102, 110, 114, 116].getD k 0
def tabP (k : Nat) : Int := [34, 92, 47, 8, 12, 10, 13, 9].getD k 0
theorem tab_cases {k : Nat} (h : k < 8) : k = 0 ∨ k = 1 ∨ k = 2 ∨ k = 3 ∨ k = 4 ∨ k = 5 ∨ k = 6 ∨ k = 7 := by omega
theorem tab_let {k : Nat} (h : k < 8) : letV (tabL k) = tabP k ∧ 0 ≤ tabP k ∧ tabP k ≤ 92 := by
  rcases tab_cases h with rfl | rfl | rfl | rfl | rfl | rfl | rfl | rfl <;> decide
theorem tab_none {c : Int} (h : ∀ j, j < 8 → c ≠ tabL j) : letV c = -1 := by
  have h0 : c ≠ 34 := h 0 (by omega)
  have h1 : c ≠ 92 := h 1 (by omega)
  have h2 : c ≠ 47 := h 2 (by omega)
  have h3 : c ≠ 98 := h 3 (by omega)
  have h4 : c ≠ 102 := h 4 (by omega)
  have h5 : c ≠ 110 := h 5 (by omega)
  have h6 : c ≠ 114 := h 6 (by omega)
  have h7 : c ≠ 116 := h 7 (by omega)
  unfold letV
  rw [if_neg h0, if_neg h1, if_neg h2, if_neg h3, if_neg h4, if_neg h5, if_neg h6, if_neg h7]
set_option maxRecDepth 100000 in
theorem tab_at (w : World) (k : Nat) (hk : k < 8) : (Instr.index 9 (.string ⟨#[34, 92, 47, 98, 102, 110, 114, 116]⟩) (.int .i64 (k : Nat))).run Tryd.prog w = .ok (.int .u8 (tabL k)) w := by
  rcases tab_cases hk with rfl | rfl | rfl | rfl | rfl | rfl | rfl | rfl <;> rfl

/-- the table lies as it was laid -/
def Tab (w : World) : Prop := 0 < w.heap.size ∧ ∀ k, k < 8 → w.cell? ⟨0, k, none⟩ = some (.int .i64 (tabP k))
theorem Tab.below {w w' : World} {B : Nat} (h : Tab w) (hb : Below B w w') (hB : 0 < B) (hs : w.heap.size ≤ w'.heap.size) : Tab w' :=
  ⟨by have := h.1; omega, fun k hk => (hb.cell (p := ⟨0, k, none⟩) hB).trans (h.2 k hk)⟩

/-- the ways of an escape that is no letter's -/
theorem escL_no {l : List UInt8} (h : l.length < 2 ∨ letV (byt l 1) = -1) (hu : unitL l < 0) : escL l = (0, 0) := (escU_none (by omega) hu).2
theorem escL_pt {l : List UInt8} {u : Int} (h : unitL l = u) (h0 : 0 ≤ u) (hp : isPt u = true) : escL l = (u, 6) := by rw [escL_unit (by omega), h, if_pos hp]
theorem escL_two {l : List UInt8} {u b : Int} (h : unitL l = u) (h0 : 0 ≤ u) (hp : isPt u = false) (hb : unitL (l.drop 6) = b) (hu : isUp u = true) (hl : isLo b = true) : escL l = (bothV u b, 12) := by
  rw [escL_unit (by omega), h, hb, if_neg (by rw [hp]; simp), if_pos ⟨hu, hl⟩]
theorem escL_half {l : List UInt8} {u b : Int} (h : unitL l = u) (h0 : 0 ≤ u) (hp : isPt u = false) (hb : unitL (l.drop 6) = b) (hu : ¬ (u ≤ 56319 ∧ 56320 ≤ b ∧ b ≤ 57343)) : escL l = (0, 0) := by
  rw [escL_unit (by omega), h, hb, if_neg (by rw [hp]; simp), if_neg]
  intro x
  have := isUp_bd x.1
  have := isLo_bd x.2
  omega

theorem ret2 {a a' b b' : Int} (h1 : a = a') (h2 : b = b') : Ending.returned (.tuple #[.int .i64 a, .int .i64 b]) = .returned (.tuple #[.int .i64 a', .int .i64 b']) := by rw [h1, h2]

set_option maxRecDepth 100000 in
set_option maxHeartbeats 8000000 in
theorem Escape_any (s : ByteArray) (q : Nat) (z : Int) (w : World) (hz : z = (q : Int)) (hs : s.size ≤ maxLen) (hq : q < s.size) (hs2 : s.size ≤ 2305843009213693952) (ht : Tab w) :
    Calls Tryd.prog 25 #[.string s, .int .i64 z] w (Gives (.tuple #[.int .i64 (escL (s.data.toList.drop q)).1, .int .i64 (escL (s.data.toList.drop q)).2]) w) := by
  subst hz
  have cu := fun z w hz => Unit_any s q z w hz hs (by omega)
  have cb := fun z w hz => Unit_any s (q + 6) z w hz hs (by omega)
  have hdd : s.data.toList.drop (q + 6) = (s.data.toList.drop q).drop 6 := by rw [List.drop_drop]
  rw [hdd] at cb
  clear hdd
  have ub := unitL_bd (s.data.toList.drop q)
  have hlen : (s.data.toList.drop q).length = s.size - q := by simp
  have e1 := fun h => escL_no (l := s.data.toList.drop q) h
  have e2 := fun h0 hp => escL_pt (l := s.data.toList.drop q) (u := unitL (s.data.toList.drop q)) rfl h0 hp
  have e3 := fun h0 hp hu hl => escL_two (l := s.data.toList.drop q) (u := unitL (s.data.toList.drop q)) (b := unitL ((s.data.toList.drop q).drop 6)) rfl h0 hp rfl hu hl
  have e4 := fun h0 hp hu => escL_half (l := s.data.toList.drop q) (u := unitL (s.data.toList.drop q)) (b := unitL ((s.data.toList.drop q).drop 6)) rfl h0 hp rfl hu
  have e5 := fun h hl => (escU_let (l := s.data.toList.drop q) h hl).2
  have bb := unitL_bd ((s.data.toList.drop q).drop 6)
  have un := fun h => unit_no (s.data.toList.drop q) (.inl h)
  generalize escL (s.data.toList.drop q) = r at *
  generalize unitL (s.data.toList.drop q) = u at *
  generalize unitL ((s.data.toList.drop q).drop 6) = b at *
  have CU := Lib.hid cu; clear cu
  have CB := Lib.hid cb; clear cb
  have E1 := Lib.hid e1; clear e1
  have E2 := Lib.hid e2; clear e2
  have E3 := Lib.hid e3; clear e3
  have E4 := Lib.hid e4; clear e4
  have E5 := Lib.hid e5; clear e5
  have HS := Lib.hid hs; clear hs
  have HLEN := Lib.hid hlen; clear hlen
  have hB := ht.1
  by_cases h2 : (s.size : Int) - (q : Int) < 2
  · have hd : decide (2 ≤ (s.size : Int) - (q : Int)) = false := decide_eq_false (by omega)
    have hu : u = -1 := un (by have := HLEN.out; omega)
    have hr := E1.out (.inl (by have := HLEN.out; omega)) (by omega)
    subst hu hr
    clear un
    go_enter Tryd.func25, Tryd.ntmps25
    go_wp2_with (go_at_call 43; refine (CU.out _ _ rfl).mono ?_; rintro e w' ⟨rfl, rfl⟩)
    go_ret2
    exact ⟨ret2 rfl rfl, Below.refl _ _⟩
  · have hd : decide (2 ≤ (s.size : Int) - (q : Int)) = true := decide_eq_true (by omega)
    clear un
    have h1 : q + 1 < s.size := by omega
    have g : byt (s.data.toList.drop q) 1 = (s[q + 1].toNat : Int) := by rw [byt_drop, byt_get s (q + 1) h1]
    have G := Lib.hid g; clear g
    go_enter Tryd.func25, Tryd.ntmps25
    go_wp2_with fail
    go_loopw [6] (fun i wr => ∃ k : Nat, k ≤ 8 ∧ i = .int .i64 k ∧ (∀ j, j < k → (s[q + 1].toNat : Int) ≠ tabL j) ∧ Below w.heap.size w wr) (fun i _ => 8 - (intOf i).toNat)
    case atStart => exact ⟨0, by omega, rfl, fun j hj => by omega, Below.refl _ _⟩
    case round =>
      obtain ⟨k, hk, rfl, hno, hbel⟩ := hrel
      have NO := Lib.hid hno; clear hno
      have TAB := Lib.hid (ht.below hbel hB hbel.size)
      by_cases hlt : k < 8
      · have hdk : decide ((k : Int) < 8) = true := decide_eq_true (by omega)
        have d1 := fun w => tab_at w k hlt
        have htl := tab_let hlt
        have hcell := TAB.out.2 k hlt
        have hk8 : (k : Int) < 8 := by omega
        have f1 : IntKind.i64.wrap ((q : Int) + 1) = (q : Int) + 1 := IntWalk.i64_in _ (by omega)
        have f2 : (0 : Int) ≤ (q : Int) + 1 := by omega
        have f3 : (q : Int) + 1 < (s.size : Int) := by omega
        have f4 : ((q : Int) + 1).toNat = q + 1 := by omega
        generalize hL : tabL k = L at *
        generalize hP : tabP k = P at *
        have HTL := Lib.hid htl; clear htl
        have HLk := Lib.hid hL; clear hL
        have HPk := Lib.hid hP; clear hP
        by_cases hc : (s[q + 1].toNat : Int) = L
        · have hcb : ((s[q + 1].toNat : Int) == L) = true := by rw [beq_iff_eq]; exact hc
          have HC := Lib.hid hc; clear hc
          go_wp2_with fail
          go_quiet (fail)
          go_wp2_with fail
          go_ret2
          have hr := E5.out (by have := HLEN.out; omega) (by rw [G.out, HC.out, HTL.out.1]; exact HTL.out.2.1)
          rw [G.out, HC.out, HTL.out.1] at hr
          rw [hr]
          exact ⟨ret2 rfl rfl, below_drewN hbel _⟩
        · have hcb : ((s[q + 1].toNat : Int) == L) = false := by rw [beq_eq_false_iff_ne]; exact hc
          have HC := Lib.hid hc; clear hc
          go_wp2_with fail
          go_quiet (fail)
          go_wp2_with fail
          go_roundw
          case rel =>
            refine ⟨k + 1, by omega, by go_num, fun j hj => ?_, below_drewN hbel _⟩
            by_cases hjk : j = k
            · subst hjk; rw [HLk.out]; exact HC.out
            · exact NO.out j (by omega)
          case measure => simp [intOf]; omega
      · have hdk : decide ((k : Int) < 8) = false := decide_eq_false (by omega)
        obtain rfl : k = 8 := by omega
        have hl := tab_none (c := (s[q + 1].toNat : Int)) NO.out
        have hl2 : letV (byt (s.data.toList.drop q) 1) = -1 := by rw [G.out]; exact hl
        have HL2 := Lib.hid hl2; clear hl hl2
        by_cases u0 : u < 0
        · have du : decide (u < 0) = true := decide_eq_true u0
          have hr := E1.out (.inr HL2.out) u0
          have HRr := Lib.hid hr; clear hr
          go_wp2_with (go_at_call 43; refine (CU.out _ _ rfl).mono ?_; rintro e w' ⟨rfl, rfl⟩)
          go_ret2
          exact ⟨by rw [HRr.out]; exact ret2 rfl rfl, hbel⟩
        · have du : decide (u < 0) = false := decide_eq_false u0
          by_cases hp : isPt u = true
          · have hr := E2.out (by omega) hp
            have HRr := Lib.hid hr; clear hr
            go_wp2_with (first | (go_at_call 43; refine (CU.out _ _ rfl).mono ?_; rintro e w' ⟨rfl, rfl⟩) | (go_at_call 44; refine (Is_any _ _).mono ?_; rintro e w' ⟨rfl, rfl⟩))
            go_ret2
            exact ⟨by rw [HRr.out]; exact ret2 rfl rfl, hbel⟩
          · have hp' : isPt u = false := by simpa using hp
            clear hp
            by_cases hc : u ≤ 56319 ∧ 56320 ≤ b ∧ b ≤ 57343
            · have hu5 : 55296 ≤ u := by simp [isPt] at hp'; omega
              have hr := E3.out (by omega) hp' (by simp [isUp]; omega) (by simp [isLo]; omega)
              have hv : bothV u b = 65536 + (u - 55296) * 1024 + (b - 56320) := rfl
              rw [hv] at hr
              have HRr := Lib.hid hr; clear hr hv
              obtain ⟨k1, k2, k3⟩ := hc
              go_wp2_with fail
              refine (CU.out _ _ rfl).mono ?_
              rintro e w' ⟨rfl, rfl⟩
              go_wp2_with (go_at_call 44; refine (Is_any _ _).mono ?_; rintro e w' ⟨rfl, rfl⟩)
              refine (CB.out _ _ (by omega)).mono ?_
              rintro e w' ⟨rfl, rfl⟩
              go_wp2_with fail
              go_ret2
              exact ⟨by rw [HRr.out]; exact ret2 rfl rfl, hbel⟩
            · have hr := E4.out (by omega) hp' hc
              have HRr := Lib.hid hr; clear hr
              have HC := Lib.hid hc; clear hc
              go_wp2_with fail
              refine (CU.out _ _ rfl).mono ?_
              rintro e w' ⟨rfl, rfl⟩
              go_wp2_with (go_at_call 44; refine (Is_any _ _).mono ?_; rintro e w' ⟨rfl, rfl⟩)
              refine (CB.out _ _ (by omega)).mono ?_
              rintro e w' ⟨rfl, rfl⟩
              go_wp2_with fail
              all_goals first | (exfalso; have := HC.out; omega) | (go_ret2; exact ⟨by rw [HRr.out]; exact ret2 rfl rfl, hbel⟩)
end Go.Proofs.YtoflogckoepioaaDoor.Ch
