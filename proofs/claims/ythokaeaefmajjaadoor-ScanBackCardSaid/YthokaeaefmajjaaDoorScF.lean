import Derived.Test.YthokaeaefmajjaaDoorScE
/- A slice that reads as tokens; contracts of the document's answer's White and Same. -/
namespace Go.Proofs.YthokaeaefmajjaaDoor.Sc
open Go.RowKit
open Go.Proofs.YthokaeaefmajjaaDoor.Utf

/-- In w the slice value v reads as the tokens ts, which lie below block B; nil and empty ones too. -/
def RdT (w : World) (B : Nat) (v : Value) (ts : List Tok) : Prop :=
  ∃ A c, v = .slice A ts.length c ∧ (0 < ts.length → ∃ g, A = some ⟨g, 0, none⟩ ∧ g < B ∧ ∀ j u, (toksC ts)[j]? = some u → w.cell? ⟨g, j, none⟩ = some u)
theorem RdT.keep {w w' : World} {B : Nat} {v : Value} {ts : List Tok} (h : RdT w B v ts) (hk : ∀ p : Addr, p.block < B → w'.cell? p = w.cell? p) : RdT w' B v ts := by
  obtain ⟨A, c, rfl, hc⟩ := h
  refine ⟨A, c, rfl, fun h0 => ?_⟩
  obtain ⟨g, rfl, hb, hx⟩ := hc h0
  exact ⟨g, rfl, hb, fun j u hu => (hk ⟨g, j, none⟩ hb).trans (hx j u hu)⟩
theorem RdT.below {w w' : World} {B B' : Nat} {v : Value} {ts : List Tok} (h : RdT w B v ts) (hb : Below B' w w') (hB : B ≤ B') : RdT w' B v ts := h.keep fun _ hp => hb.cell (by omega)
theorem RdT.more {w : World} {B B' : Nat} {v : Value} {ts : List Tok} (h : RdT w B v ts) (hB : B ≤ B') : RdT w B' v ts := by
  obtain ⟨A, c, rfl, hc⟩ := h
  refine ⟨A, c, rfl, fun h0 => ?_⟩
  obtain ⟨g, rfl, hb, hx⟩ := hc h0
  exact ⟨g, rfl, by omega, hx⟩
theorem RdT.of_own {w : World} {base E : Nat} {v : Value} {ts : List Tok} (h : w.ownsRow base E 4 v ts.length (toksC ts)) : RdT w w.heap.size v ts := by
  have hlt := h.lt
  have hcell := @World.ownsRow.cells w base E 4 v ts.length (toksC ts) h
  rcases h.2 with ⟨rfl, h0⟩ | ⟨g, cap, cur, rfl, _, _, _⟩
  · exact ⟨none, 0, by rw [h0], fun h => by omega⟩
  · refine ⟨some ⟨g, 0, none⟩, cap, rfl, fun _ => ⟨g, rfl, (hlt g rfl).2, fun j u hu => ?_⟩⟩
    have := hcell rfl j u hu
    rwa [show (⟨g, 0, none⟩ : Addr).add j = ⟨g, j, none⟩ by unfold Addr.add; split <;> simp_all] at this
theorem toksC_at (ts : List Tok) : ∀ (i : Nat) (h : i < ts.length) (j : Nat), j < 4 → (toksC ts)[i * 4 + j]? = (tokC ts[i])[j]? := by
  induction ts with
  | nil => intro i h; simp at h
  | cons t r ih =>
    intro i h j hj
    have e : toksC (t :: r) = tokC t ++ toksC r := by rw [show t :: r = [t] ++ r from rfl, toksC_app, toksC_one]
    have l : (tokC t).length = 4 := rfl
    rw [e]
    cases i with
    | zero => rw [List.getElem?_append_left (by rw [l]; omega)]; simp
    | succ i =>
      rw [List.getElem?_append_right (by rw [l]; omega), l]
      have := ih i (by simpa using h) j hj
      rw [show (i + 1) * 4 + j - 4 = i * 4 + j by omega, this]
      simp
/-- the cells of a token -/
theorem RdT.at_ {w : World} {B : Nat} {v : Value} {ts : List Tok} (h : RdT w B v ts) (i : Nat) (hi : i < ts.length) : ∃ g c, v = .slice (some ⟨g, 0, none⟩) ts.length c ∧ g < B ∧
    w.cell? ⟨g, i * 4, none⟩ = some (.int .i64 ts[i].1) ∧ w.cell? ⟨g, i * 4 + 1, none⟩ = some (.int .i64 ts[i].2.1) ∧ w.cell? ⟨g, i * 4 + 2, none⟩ = some (.string (strOf ts[i].2.2.1)) ∧ w.cell? ⟨g, i * 4 + 3, none⟩ = some (.int .i64 ts[i].2.2.2) := by
  obtain ⟨A, c, rfl, hc⟩ := h
  obtain ⟨g, rfl, hb, hx⟩ := hc (by omega)
  have a0 := toksC_at ts i hi 0 (by omega)
  exact ⟨g, c, rfl, hb, hx _ _ a0, hx _ _ (toksC_at ts i hi 1 (by omega)), hx _ _ (toksC_at ts i hi 2 (by omega)), hx _ _ (toksC_at ts i hi 3 (by omega))⟩

theorem White_any (c : Int) (w : World) : Calls Tryd.prog 11 #[.int .u8 c] w fun e w' => e = .returned (.bool (isW c)) ∧ w = w' := by
  go_enter Tryd.func11, Tryd.ntmps11
  go_wp2
  all_goals
    go_ret
    refine ⟨ret_bool ?_, rfl⟩
    rw [Bool.eq_iff_iff, isW_iff]
    simp
    try omega

/-- are two tokens the same (their places, too)? -/
def sameT (p : Bool) (t u : Tok) : Prop := t.1 = u.1 ∧ t.2.1 = u.2.1 ∧ t.2.2.1 = u.2.2.1 ∧ (p = true → t.2.2.2 = u.2.2.2)
def sameL (p : Bool) : List Tok → List Tok → Prop
  | [], [] => True
  | t :: r, u :: s => sameT p t u ∧ sameL p r s
  | _, _ => False
theorem sameL_refl (p : Bool) (ts : List Tok) : sameL p ts ts := by
  induction ts with
  | nil => trivial
  | cons t r ih => exact ⟨⟨rfl, rfl, rfl, fun _ => rfl⟩, ih⟩
theorem sameL_iff (p : Bool) : ∀ ts us, sameL p ts us ↔ ts.length = us.length ∧ ∀ i (h1 : i < ts.length) (h2 : i < us.length), sameT p ts[i] us[i] := by
  intro ts
  induction ts with
  | nil => intro us; cases us with
    | nil => simp [sameL]
    | cons u s => simp [sameL]
  | cons t r ih => intro us; cases us with
    | nil => simp [sameL]
    | cons u s =>
      simp only [sameL, ih, List.length_cons]
      constructor
      · rintro ⟨h0, h1, h2⟩
        refine ⟨by omega, fun i g1 g2 => ?_⟩
        cases i with
        | zero => exact h0
        | succ i => exact h2 i (by omega) (by omega)
      · rintro ⟨h1, h2⟩
        exact ⟨h2 0 (by omega) (by omega), by omega, fun i g1 g2 => h2 (i + 1) (by omega) (by omega)⟩

/-- the tests of a round of Same -/
def GivesB (q : Prop) (w : World) (e : Ending) (w' : World) : Prop := (∃ b, e = .returned (.bool b) ∧ (b = true ↔ q)) ∧ Below w.heap.size w w'

set_option maxHeartbeats 2000000 in
theorem Same_any (va vb : Value) (ts us : List Tok) (p : Bool) (w : World) (ha : RdT w w.heap.size va ts) (hb : RdT w w.heap.size vb us) (hsz : ts.length ≤ 9223372036854775807) :
    Calls Tryd.prog 8 #[va, vb, .bool p] w (GivesB (sameL p ts us) w) := by
  obtain ⟨A, ca, hva, _⟩ := id ha
  obtain ⟨A2, cb, hvb, _⟩ := id hb
  subst hva hvb
  by_cases hl : ts.length = us.length
  · have hlb : ((ts.length : Int) != (us.length : Int)) = false := by rw [bne_eq_false_iff_eq]; omega
    go_enter Tryd.func8, Tryd.ntmps8
    go_wp2_with fail
    go_loopw [7] (fun i wr => ∃ k : Nat, i = .int .i64 k ∧ k ≤ ts.length ∧ (∀ j (h1 : j < ts.length) (h2 : j < us.length), j < k → sameT p ts[j] us[j]) ∧ Below w.heap.size w wr) (fun i _ => ts.length - (intOf i).toNat)
    case atStart => exact ⟨0, rfl, by omega, fun j _ _ h => by omega, Below.refl _ _⟩
    case round =>
      obtain ⟨k, rfl, hk, hall, hbel⟩ := hrel
      have HALL := Lib.hid hall; clear hall
      by_cases hlt : k < ts.length
      · have hlt2 : k < us.length := by omega
        have hlb : decide ((k : Int) < (ts.length : Int)) = true := decide_eq_true (by omega)
        have hlb2 : decide (k < ts.length) = true := decide_eq_true hlt
        have k0 : (0 : Int) ≤ (k : Int) := by omega
        have k1 : (k : Int) < (ts.length : Int) := by omega
        have k2 : (k : Int) < (us.length : Int) := by omega
        obtain ⟨g, c, hg, _, a0, a1, a2, a3⟩ := (ha.below hbel (Nat.le_refl _)).at_ k hlt
        obtain ⟨g', c', hg', _, b0, b1, b2, b3⟩ := (hb.below hbel (Nat.le_refl _)).at_ k hlt2
        have e1 : A = some ⟨g, 0, none⟩ := by injection hg
        have e2 : A2 = some ⟨g', 0, none⟩ := by injection hg'
        subst e1 e2
        rcases ht : ts[k] with ⟨x1, x2, x3, x4⟩
        rcases hu : us[k] with ⟨y1, y2, y3, y4⟩
        rw [ht] at a0 a1 a2 a3
        rw [hu] at b0 b1 b2 b3
        simp only at a0 a1 a2 a3 b0 b1 b2 b3
        have HT := Lib.hid ht; clear ht
        have HU := Lib.hid hu; clear hu
        have HA := Lib.hid ha; clear ha
        have HB := Lib.hid hb; clear hb
        by_cases c1 : x1 = y1
        · have t1 : (x1 != y1) = false := by rw [bne_eq_false_iff_eq]; exact c1
          have C1 := Lib.hid c1; clear c1
          by_cases c2 : x2 = y2
          · have t2 : (x2 != y2) = false := by rw [bne_eq_false_iff_eq]; exact c2
            have C2 := Lib.hid c2; clear c2
            by_cases c3 : x3 = y3
            · have t3 : ((strOf x3).toList != (strOf y3).toList) = false := by rw [bne_eq_false_iff_eq, strOf_list, strOf_list]; exact c3
              have t3b : ((strOf x3).toList == (strOf y3).toList) = true := by rw [beq_iff_eq, strOf_list, strOf_list]; exact c3
              generalize strOf x3 = X at *
              generalize strOf y3 = Y at *
              have C3 := Lib.hid c3; clear c3
              cases p
              · skip
                go_wp2_with fail
                go_quiet (fail)
                go_wp2_with fail
                go_roundw
                case rel =>
                  refine ⟨k + 1, by go_num, by omega, fun j h1 h2 hj => ?_, below_drewN hbel _⟩
                  rcases Nat.lt_or_ge j k with hjk | hjk
                  · exact HALL.out j h1 h2 hjk
                  · obtain rfl : j = k := by omega
                    rw [HT.out, HU.out]
                    exact ⟨C1.out, C2.out, C3.out, fun h => by cases h⟩
                case measure => simp [intOf]; omega
              · by_cases c4 : x4 = y4
                · have t4 : (x4 != y4) = false := by rw [bne_eq_false_iff_eq]; exact c4
                  have C4 := Lib.hid c4; clear c4
                  go_wp2_with fail
                  go_quiet (fail)
                  go_wp2_with fail
                  go_roundw
                  case rel =>
                    refine ⟨k + 1, by go_num, by omega, fun j h1 h2 hj => ?_, below_drewN hbel _⟩
                    rcases Nat.lt_or_ge j k with hjk | hjk
                    · exact HALL.out j h1 h2 hjk
                    · obtain rfl : j = k := by omega
                      rw [HT.out, HU.out]
                      exact ⟨C1.out, C2.out, C3.out, fun _ => C4.out⟩
                  case measure => simp [intOf]; omega
                · have t4 : (x4 != y4) = true := by rw [bne_iff_ne]; exact c4
                  go_wp2_with fail
                  go_quiet (fail)
                  go_wp2_with fail
                  go_ret
                  refine ⟨⟨false, rfl, by simp, fun h => ?_⟩, below_drewN hbel _⟩
                  have h2 := ((sameL_iff _ _ _).1 h).2 k hlt hlt2
                  rw [HT.out, HU.out] at h2
                  exact absurd (h2.2.2.2 rfl) c4
            · have t3 : ((strOf x3).toList != (strOf y3).toList) = true := by rw [bne_iff_ne, strOf_list, strOf_list]; exact c3
              have t3b : ((strOf x3).toList == (strOf y3).toList) = false := by rw [beq_eq_false_iff_ne, strOf_list, strOf_list]; exact c3
              generalize strOf x3 = X at *
              generalize strOf y3 = Y at *
              go_wp2_with fail
              go_quiet (fail)
              go_wp2_with fail
              go_ret
              refine ⟨⟨false, rfl, by simp, fun h => ?_⟩, below_drewN hbel _⟩
              have h2 := ((sameL_iff _ _ _).1 h).2 k hlt hlt2
              rw [HT.out, HU.out] at h2
              exact absurd (h2.2.2.1) c3
          · have t2 : (x2 != y2) = true := by rw [bne_iff_ne]; exact c2
            go_wp2_with fail
            go_quiet (fail)
            go_wp2_with fail
            go_ret
            refine ⟨⟨false, rfl, by simp, fun h => ?_⟩, below_drewN hbel _⟩
            have h2 := ((sameL_iff _ _ _).1 h).2 k hlt hlt2
            rw [HT.out, HU.out] at h2
            exact absurd (h2.2.1) c2
        · have t1 : (x1 != y1) = true := by rw [bne_iff_ne]; exact c1
          go_wp2_with fail
          go_quiet (fail)
          go_wp2_with fail
          go_ret
          refine ⟨⟨false, rfl, by simp, fun h => ?_⟩, below_drewN hbel _⟩
          have h2 := ((sameL_iff _ _ _).1 h).2 k hlt hlt2
          rw [HT.out, HU.out] at h2
          exact absurd (h2.1) c1
      · obtain rfl : k = ts.length := by omega
        have hlb : decide ((ts.length : Int) < (ts.length : Int)) = false := decide_eq_false (by omega)
        have HA := Lib.hid ha; clear ha
        have HB := Lib.hid hb; clear hb
        have HL := Lib.hid hl; clear hl
        go_wp2_with fail
        go_ret
        exact ⟨⟨true, rfl, fun _ => (sameL_iff _ _ _).2 ⟨HL.out, fun i h1 h2 => HALL.out i h1 h2 h1⟩, fun _ => rfl⟩, hbel⟩
  · have hlb : ((ts.length : Int) != (us.length : Int)) = true := by rw [bne_iff_ne]; omega
    go_enter Tryd.func8, Tryd.ntmps8
    go_wp2_with fail
    go_ret
    exact ⟨⟨false, rfl, by simp, fun h => absurd ((sameL_iff _ _ _).1 h).1 hl⟩, Below.refl _ _⟩
end Go.Proofs.YthokaeaefmajjaaDoor.Sc
