import Derived.Test.YtoflogckoepioaaDoorNuA
/- Contract of the document's answer Read. -/
namespace Go.Proofs.YtoflogckoepioaaDoor.Nu
open Go.RowKit
open Go.Proofs.YtoflogckoepioaaDoor.Utf

/-- how the document's loop goes on: so far as it is not too great, n is the number -/
def satR (m : Nat) (n : Int) (g : Bool) : Prop := 0 ≤ n ∧ n ≤ 9007199254740999 ∧ (if g = true then 9007199254740991 < m else n = m)
theorem satR_0 : satR 0 0 false := ⟨by omega, by omega, by simp⟩
theorem satR_go {m : Nat} {n : Int} {d : Nat} (h : satR m n false) (hn : ¬ 900719925474099 < n) (hd : d ≤ 9) : satR (m * 10 + d) (n * 10 + d) false := by
  obtain ⟨a, b, c⟩ := h
  simp at c
  refine ⟨by omega, by omega, ?_⟩
  simp
  omega
theorem satR_great {m : Nat} {n : Int} {g : Bool} {d : Nat} (h : satR m n g) (hn : g = true ∨ 900719925474099 < n) : satR (m * 10 + d) n true := by
  obtain ⟨a, b, c⟩ := h
  refine ⟨a, b, ?_⟩
  rw [if_pos rfl]
  cases g
  · simp at c
    have := hn.resolve_left (by simp)
    omega
  · rw [if_pos rfl] at c
    omega

/-- the answer's two forms -/
theorem rRead_bad {l : List UInt8} {p f k : Nat} {z : Int} (hf : fstN l p = f) (hr : runL l f = k) (hz : z = (p : Int)) (h : badN l f k) :
    Ending.returned (.tuple #[.int .i64 0, .int .i64 z, .int .i64 30]) = .returned (.tuple #[.int .i64 (rdN l p).1, .int .i64 (rdN l p).2.1, .int .i64 (rdN l p).2.2]) := by
  rw [rdN, hf, hr, if_pos h, hz]
theorem rRead_neg {l : List UInt8} {p f k : Nat} {m z : Int} (hf : fstN l p = f) (hr : runL l f = k) (h45 : byt l p = 45) (hm : m = -(accD l f k : Int)) (hz : z = (f : Int) + (k : Int)) (h : ¬ badN l f k) :
    Ending.returned (.tuple #[.int .i64 m, .int .i64 z, .int .i64 0]) = .returned (.tuple #[.int .i64 (rdN l p).1, .int .i64 (rdN l p).2.1, .int .i64 (rdN l p).2.2]) := by
  rw [rdN, hf, hr, if_neg h, if_pos h45, hm, hz]; simp
theorem rRead_pos {l : List UInt8} {p f k : Nat} {m z : Int} (hf : fstN l p = f) (hr : runL l f = k) (h45 : ¬ byt l p = 45) (hm : m = (accD l f k : Int)) (hz : z = (f : Int) + (k : Int)) (h : ¬ badN l f k) :
    Ending.returned (.tuple #[.int .i64 m, .int .i64 z, .int .i64 0]) = .returned (.tuple #[.int .i64 (rdN l p).1, .int .i64 (rdN l p).2.1, .int .i64 (rdN l p).2.2]) := by
  rw [rdN, hf, hr, if_neg h, if_neg h45, hm, hz]; simp
theorem mem_stop {l : List UInt8} {f k : Nat} (h : byt l (f + k) = 46 ∨ byt l (f + k) = 101 ∨ byt l (f + k) = 69) : badN l f k := .inr (.inr (.inr h))
theorem satR_yes {m : Nat} {n : Int} (h : satR m n false) : n = m ∧ 0 ≤ n ∧ n ≤ 9007199254740999 := by
  obtain ⟨a, b, c⟩ := h
  simp at c
  exact ⟨c, a, b⟩
theorem satR_bnd {m : Nat} {n : Int} {g : Bool} (h : satR m n g) : 0 ≤ n ∧ n ≤ 9007199254740999 := ⟨h.1, h.2.1⟩
theorem satR_bad {m : Nat} {n : Int} (h : satR m n true) : maxN < m := by
  have := h.2.2
  rw [if_pos rfl] at this
  exact this

set_option maxRecDepth 100000 in
set_option maxHeartbeats 2000000 in
theorem rRead_minus (s : ByteArray) (p : Nat) (w : World) (hs : s.size ≤ 9223372036854775807) (hp : p < s.size) (h45 : (s[p].toNat : Int) = 45) :
    Calls Tryd.prog 17 #[.string s, .int .i64 p] w fun e w' =>
      e = .returned (.tuple #[.int .i64 (rdN s.data.toList p).1, .int .i64 (rdN s.data.toList p).2.1, .int .i64 (rdN s.data.toList p).2.2]) ∧ w = w' := by
  have hfst := fst_le s.data.toList p hp
  rw [len_data] at hfst
  have hd0 : decide ((p : Int) < 0) = false := decide_eq_false (by omega)
  have hd1 : decide (s.size ≤ p) = false := decide_eq_false (by omega)
  have hb45 : byt s.data.toList p = 45 := by rw [byt_get s p hp]; exact h45
  have t1 : ((s[p].toNat : Int) == 45) = true := by simpa using h45
  have hf : fstN s.data.toList p = p + 1 := by rw [fstN, if_pos hb45]
  rw [hf] at hfst
  have HF := Lib.hid hf; clear hf
  have H45 := Lib.hid hb45; clear hb45
  clear h45
  go_enter Tryd.func17, Tryd.ntmps17
  go_wp2_with fail
  go_loop [7, 9, 10] (fun a n b => ∃ (k : Nat) (m : Int) (g : Bool), digsK s.data.toList (p + 1) k = true ∧ p + 1 + k ≤ s.size ∧ a = .int .i64 (p + 1 + k : Nat) ∧ n = .int .i64 m ∧ b = .bool g ∧ satR (accD s.data.toList (p + 1) k) m g) (fun a _ _ => s.size - (intOf a).toNat)
  case atStart => exact ⟨0, 0, false, rfl, by omega, rfl, rfl, rfl, satR_0⟩
  case round =>
    obtain ⟨k, m, g, hd, hk, rfl, rfl, rfl, hsat⟩ := hrel
    have HD := Lib.hid hd; clear hd
    have hbnd := satR_bnd hsat
    have HS := Lib.hid hsat; clear hsat
    by_cases hlt : p + 1 + k < s.size
    · have hlb : decide (p + 1 + k < s.size) = true := decide_eq_true hlt
      have g1 := byt_get s (p + 1 + k) hlt
      have G := Lib.hid g1
      by_cases hb : isD (byt s.data.toList (p + 1 + k)) = true
      · have hb2 := isD_yes hb
        rw [g1] at hb hb2
        clear g1
        by_cases hgt : 900719925474099 < m
        · have x0 : decide (900719925474099 < m) = true := decide_eq_true hgt
          have hnext : satR (accD s.data.toList (p + 1) (k + 1)) m true := by rw [accD]; exact satR_great HS.out (.inr hgt)
          have HN := Lib.hid hnext; clear hnext
          go_wp2_with (go_at_call 28; refine (is_any _ _).mono ?_; rintro e w' ⟨rfl, rfl⟩)
          go_round
          case rel => exact ⟨k + 1, m, true, by rw [digsK, HD.out, G.out]; simpa using hb, by omega, by go_num, rfl, rfl, HN.out⟩
          case measure => simp [intOf]; omega
        · have x0 : decide (900719925474099 < m) = false := decide_eq_false hgt
          cases g
          · have hnext : satR (accD s.data.toList (p + 1) (k + 1)) (m * 10 + (s[p + 1 + k].toNat : Int) - 48) false := by
              have h := satR_go (d := ((s[p + 1 + k].toNat : Int) - 48).toNat) HS.out hgt (by omega)
              rw [accD, G.out, show m * 10 + (s[p + 1 + k].toNat : Int) - 48 = m * 10 + (((s[p + 1 + k].toNat : Int) - 48).toNat : Nat) by omega]
              exact h
            have HN := Lib.hid hnext; clear hnext
            go_wp2_with (go_at_call 28; refine (is_any _ _).mono ?_; rintro e w' ⟨rfl, rfl⟩)
            go_round
            case rel => exact ⟨k + 1, _, false, by rw [digsK, HD.out, G.out]; simpa using hb, by omega, by go_num, rfl, rfl, HN.out⟩
            case measure => simp [intOf]; omega
          · have hnext : satR (accD s.data.toList (p + 1) (k + 1)) m true := by rw [accD]; exact satR_great HS.out (.inl rfl)
            have HN := Lib.hid hnext; clear hnext
            go_wp2_with (go_at_call 28; refine (is_any _ _).mono ?_; rintro e w' ⟨rfl, rfl⟩)
            go_round
            case rel => exact ⟨k + 1, m, true, by rw [digsK, HD.out, G.out]; simpa using hb, by omega, by go_num, rfl, rfl, HN.out⟩
            case measure => simp [intOf]; omega
      · have hb' : isD (s[p + 1 + k].toNat : Int) = false := by rw [← g1]; simpa using hb
        have hz : isD (byt s.data.toList (p + 1 + k)) = false := by rw [G.out]; exact hb'
        have HZ := Lib.hid hz; clear hz
        clear g1 hb
        have hrun := runL_eq HD.out HZ.out
        have HR := Lib.hid hrun; clear hrun
        by_cases hk0 : k = 0
        · have x1 : (((p : Int) + 1) + (k : Int) == ((p : Int) + 1)) = true := by simp; omega
          have HK := Lib.hid hk0; clear hk0
          go_wp2_with (go_at_call 28; refine (is_any _ _).mono ?_; rintro e w' ⟨rfl, rfl⟩)
          go_ret3
          exact ⟨rRead_bad HF.out HR.out rfl (.inl HK.out), rfl⟩
        · have x1 : (((p : Int) + 1) + (k : Int) == ((p : Int) + 1)) = false := by simp; omega
          have x2 : IntKind.i64.wrap (((p : Int) + 1) + (k : Int) - ((p : Int) + 1)) = (k : Int) := by rw [show ((p : Int) + 1) + (k : Int) - ((p : Int) + 1) = (k : Int) by omega]; exact IntWalk.i64_in _ (by omega)
          have x3 : ((p : Int) + 1) + (k : Int) - ((p : Int) + 1) = (k : Int) := by omega
          have hfi : p + 1 < s.size := by omega
          have gf := byt_get s (p + 1) hfi
          cases g
          · obtain ⟨hm, hm0, hm1⟩ := satR_yes HS.out
            by_cases hmx : 9007199254740991 < m
            · have x4 : decide (9007199254740991 < m) = true := decide_eq_true hmx
              have hb : badN s.data.toList (p + 1) k := .inr (.inl (by show 9007199254740991 < _; omega))
              clear gf hm
              have HB := Lib.hid hb; clear hb
              go_wp2_with (go_at_call 28; refine (is_any _ _).mono ?_; rintro e w' ⟨rfl, rfl⟩)
              go_ret3
              exact ⟨rRead_bad HF.out HR.out rfl HB.out, rfl⟩
            · have x4 : decide (9007199254740991 < m) = false := decide_eq_false hmx
              have HM := Lib.hid hm; clear hm
              by_cases h1k : 1 < k
              · have x5 : decide (1 < (k : Int)) = true := decide_eq_true (by omega)
                have x5' : decide (1 < k) = true := decide_eq_true (by omega)
                by_cases h48 : (s[p + 1].toNat : Int) = 48
                · have x6 : ((s[p + 1].toNat : Int) == 48) = true := by simpa using h48
                  have hb : badN s.data.toList (p + 1) k := .inr (.inr (.inl ⟨h1k, by omega⟩))
                  have HB := Lib.hid hb; clear hb
                  clear gf h48
                  go_wp2_with (go_at_call 28; refine (is_any _ _).mono ?_; rintro e w' ⟨rfl, rfl⟩)
                  go_ret3
                  exact ⟨rRead_bad HF.out HR.out rfl HB.out, rfl⟩
                · have x6 : ((s[p + 1].toNat : Int) == 48) = false := by simpa using h48
                  have hno : ¬ (1 < k ∧ byt s.data.toList (p + 1) = 48) := by omega
                  have HNO := Lib.hid hno; clear hno
                  clear gf h48
                  have gs := byt_get s (p + 1 + k) hlt
                  have GS := Lib.hid gs; clear gs
                  by_cases h46 : (s[p + 1 + k].toNat : Int) = 46
                  · have y46 : ((s[p + 1 + k].toNat : Int) == 46) = true := by simpa using h46
                    have hb : badN s.data.toList (p + 1) k := mem_stop (by have := GS.out; omega)
                    have HB := Lib.hid hb; clear hb h46
                    go_wp2_with (go_at_call 28; refine (is_any _ _).mono ?_; rintro e w' ⟨rfl, rfl⟩)
                    go_ret3
                    exact ⟨rRead_bad HF.out HR.out rfl HB.out, rfl⟩
                  · have y46 : ((s[p + 1 + k].toNat : Int) == 46) = false := by simpa using h46
                    have H46 := Lib.hid h46; clear h46
                    by_cases h101 : (s[p + 1 + k].toNat : Int) = 101
                    · have y101 : ((s[p + 1 + k].toNat : Int) == 101) = true := by simpa using h101
                      have hb : badN s.data.toList (p + 1) k := mem_stop (by have := GS.out; omega)
                      have HB := Lib.hid hb; clear hb h101
                      go_wp2_with (go_at_call 28; refine (is_any _ _).mono ?_; rintro e w' ⟨rfl, rfl⟩)
                      go_ret3
                      exact ⟨rRead_bad HF.out HR.out rfl HB.out, rfl⟩
                    · have y101 : ((s[p + 1 + k].toNat : Int) == 101) = false := by simpa using h101
                      have H101 := Lib.hid h101; clear h101
                      by_cases h69 : (s[p + 1 + k].toNat : Int) = 69
                      · have y69 : ((s[p + 1 + k].toNat : Int) == 69) = true := by simpa using h69
                        have hb : badN s.data.toList (p + 1) k := mem_stop (by have := GS.out; omega)
                        have HB := Lib.hid hb; clear hb h69
                        go_wp2_with (go_at_call 28; refine (is_any _ _).mono ?_; rintro e w' ⟨rfl, rfl⟩)
                        go_ret3
                        exact ⟨rRead_bad HF.out HR.out rfl HB.out, rfl⟩
                      · have y69 : ((s[p + 1 + k].toNat : Int) == 69) = false := by simpa using h69
                        have H69 := Lib.hid h69; clear h69
                        have hst : ¬ (byt s.data.toList (p + 1 + k) = 46 ∨ byt s.data.toList (p + 1 + k) = 101 ∨ byt s.data.toList (p + 1 + k) = 69) := by have := GS.out; have := H46.out; have := H101.out; have := H69.out; omega
                        have HST := Lib.hid hst; clear hst
                        have hok : ¬ badN s.data.toList (p + 1) k := by
                          have a1 := HNO.out
                          have a2 := HM.out
                          have a3 : maxN = 9007199254740991 := rfl
                          have a4 := HST.out
                          unfold badN
                          omega
                        have HOK := Lib.hid hok; clear hok
                        go_wp2_with (go_at_call 28; refine (is_any _ _).mono ?_; rintro e w' ⟨rfl, rfl⟩)
                        go_ret3
                        exact ⟨rRead_neg HF.out HR.out H45.out (by have := HM.out; omega) (by omega) HOK.out, rfl⟩
              · have x5 : decide (1 < (k : Int)) = false := decide_eq_false (by omega)
                have x5' : decide (1 < k) = false := decide_eq_false (by omega)
                have hno : ¬ (1 < k ∧ byt s.data.toList (p + 1) = 48) := by omega
                have HNO := Lib.hid hno; clear hno
                clear gf
                have gs := byt_get s (p + 1 + k) hlt
                have GS := Lib.hid gs; clear gs
                by_cases h46 : (s[p + 1 + k].toNat : Int) = 46
                · have y46 : ((s[p + 1 + k].toNat : Int) == 46) = true := by simpa using h46
                  have hb : badN s.data.toList (p + 1) k := mem_stop (by have := GS.out; omega)
                  have HB := Lib.hid hb; clear hb h46
                  go_wp2_with (go_at_call 28; refine (is_any _ _).mono ?_; rintro e w' ⟨rfl, rfl⟩)
                  go_ret3
                  exact ⟨rRead_bad HF.out HR.out rfl HB.out, rfl⟩
                · have y46 : ((s[p + 1 + k].toNat : Int) == 46) = false := by simpa using h46
                  have H46 := Lib.hid h46; clear h46
                  by_cases h101 : (s[p + 1 + k].toNat : Int) = 101
                  · have y101 : ((s[p + 1 + k].toNat : Int) == 101) = true := by simpa using h101
                    have hb : badN s.data.toList (p + 1) k := mem_stop (by have := GS.out; omega)
                    have HB := Lib.hid hb; clear hb h101
                    go_wp2_with (go_at_call 28; refine (is_any _ _).mono ?_; rintro e w' ⟨rfl, rfl⟩)
                    go_ret3
                    exact ⟨rRead_bad HF.out HR.out rfl HB.out, rfl⟩
                  · have y101 : ((s[p + 1 + k].toNat : Int) == 101) = false := by simpa using h101
                    have H101 := Lib.hid h101; clear h101
                    by_cases h69 : (s[p + 1 + k].toNat : Int) = 69
                    · have y69 : ((s[p + 1 + k].toNat : Int) == 69) = true := by simpa using h69
                      have hb : badN s.data.toList (p + 1) k := mem_stop (by have := GS.out; omega)
                      have HB := Lib.hid hb; clear hb h69
                      go_wp2_with (go_at_call 28; refine (is_any _ _).mono ?_; rintro e w' ⟨rfl, rfl⟩)
                      go_ret3
                      exact ⟨rRead_bad HF.out HR.out rfl HB.out, rfl⟩
                    · have y69 : ((s[p + 1 + k].toNat : Int) == 69) = false := by simpa using h69
                      have H69 := Lib.hid h69; clear h69
                      have hst : ¬ (byt s.data.toList (p + 1 + k) = 46 ∨ byt s.data.toList (p + 1 + k) = 101 ∨ byt s.data.toList (p + 1 + k) = 69) := by have := GS.out; have := H46.out; have := H101.out; have := H69.out; omega
                      have HST := Lib.hid hst; clear hst
                      have hok : ¬ badN s.data.toList (p + 1) k := by
                        have a1 := HNO.out
                        have a2 := HM.out
                        have a3 : maxN = 9007199254740991 := rfl
                        have a4 := HST.out
                        unfold badN
                        omega
                      have HOK := Lib.hid hok; clear hok
                      go_wp2_with (go_at_call 28; refine (is_any _ _).mono ?_; rintro e w' ⟨rfl, rfl⟩)
                      go_ret3
                      exact ⟨rRead_neg HF.out HR.out H45.out (by have := HM.out; omega) (by omega) HOK.out, rfl⟩
          · have hb : badN s.data.toList (p + 1) k := .inr (.inl (satR_bad HS.out))
            clear gf
            have HB := Lib.hid hb; clear hb
            go_wp2_with (go_at_call 28; refine (is_any _ _).mono ?_; rintro e w' ⟨rfl, rfl⟩)
            go_ret3
            exact ⟨rRead_bad HF.out HR.out rfl HB.out, rfl⟩
    · have hlb : decide (p + 1 + k < s.size) = false := decide_eq_false hlt
      have hz : isD (byt s.data.toList (p + 1 + k)) = false := by rw [byt_out (by rw [len_data]; omega)]; rfl
      have HZ := Lib.hid hz; clear hz
      have hrun := runL_eq HD.out HZ.out
      have HR := Lib.hid hrun; clear hrun
      by_cases hk0 : k = 0
      · have x1 : (((p : Int) + 1) + (k : Int) == ((p : Int) + 1)) = true := by simp; omega
        have HK := Lib.hid hk0; clear hk0
        go_wp2_with (go_at_call 28; refine (is_any _ _).mono ?_; rintro e w' ⟨rfl, rfl⟩)
        go_ret3
        exact ⟨rRead_bad HF.out HR.out rfl (.inl HK.out), rfl⟩
      · have x1 : (((p : Int) + 1) + (k : Int) == ((p : Int) + 1)) = false := by simp; omega
        have x2 : IntKind.i64.wrap (((p : Int) + 1) + (k : Int) - ((p : Int) + 1)) = (k : Int) := by rw [show ((p : Int) + 1) + (k : Int) - ((p : Int) + 1) = (k : Int) by omega]; exact IntWalk.i64_in _ (by omega)
        have x3 : ((p : Int) + 1) + (k : Int) - ((p : Int) + 1) = (k : Int) := by omega
        have hfi : p + 1 < s.size := by omega
        have gf := byt_get s (p + 1) hfi
        cases g
        · obtain ⟨hm, hm0, hm1⟩ := satR_yes HS.out
          by_cases hmx : 9007199254740991 < m
          · have x4 : decide (9007199254740991 < m) = true := decide_eq_true hmx
            have hb : badN s.data.toList (p + 1) k := .inr (.inl (by show 9007199254740991 < _; omega))
            clear gf hm
            have HB := Lib.hid hb; clear hb
            go_wp2_with (go_at_call 28; refine (is_any _ _).mono ?_; rintro e w' ⟨rfl, rfl⟩)
            go_ret3
            exact ⟨rRead_bad HF.out HR.out rfl HB.out, rfl⟩
          · have x4 : decide (9007199254740991 < m) = false := decide_eq_false hmx
            have HM := Lib.hid hm; clear hm
            by_cases h1k : 1 < k
            · have x5 : decide (1 < (k : Int)) = true := decide_eq_true (by omega)
              have x5' : decide (1 < k) = true := decide_eq_true (by omega)
              by_cases h48 : (s[p + 1].toNat : Int) = 48
              · have x6 : ((s[p + 1].toNat : Int) == 48) = true := by simpa using h48
                have hb : badN s.data.toList (p + 1) k := .inr (.inr (.inl ⟨h1k, by omega⟩))
                have HB := Lib.hid hb; clear hb
                clear gf h48
                go_wp2_with (go_at_call 28; refine (is_any _ _).mono ?_; rintro e w' ⟨rfl, rfl⟩)
                go_ret3
                exact ⟨rRead_bad HF.out HR.out rfl HB.out, rfl⟩
              · have x6 : ((s[p + 1].toNat : Int) == 48) = false := by simpa using h48
                have hno : ¬ (1 < k ∧ byt s.data.toList (p + 1) = 48) := by omega
                have HNO := Lib.hid hno; clear hno
                clear gf h48
                have hst : byt s.data.toList (p + 1 + k) = 0 := byt_out (by rw [len_data]; omega)
                have HST := Lib.hid hst; clear hst
                have hok : ¬ badN s.data.toList (p + 1) k := by
                  have a1 := HNO.out
                  have a2 := HM.out
                  have a3 : maxN = 9007199254740991 := rfl
                  have a4 := HST.out
                  unfold badN
                  omega
                have HOK := Lib.hid hok; clear hok
                go_wp2_with (go_at_call 28; refine (is_any _ _).mono ?_; rintro e w' ⟨rfl, rfl⟩)
                go_ret3
                exact ⟨rRead_neg HF.out HR.out H45.out (by have := HM.out; omega) (by omega) HOK.out, rfl⟩
            · have x5 : decide (1 < (k : Int)) = false := decide_eq_false (by omega)
              have x5' : decide (1 < k) = false := decide_eq_false (by omega)
              have hno : ¬ (1 < k ∧ byt s.data.toList (p + 1) = 48) := by omega
              have HNO := Lib.hid hno; clear hno
              clear gf
              have hst : byt s.data.toList (p + 1 + k) = 0 := byt_out (by rw [len_data]; omega)
              have HST := Lib.hid hst; clear hst
              have hok : ¬ badN s.data.toList (p + 1) k := by
                have a1 := HNO.out
                have a2 := HM.out
                have a3 : maxN = 9007199254740991 := rfl
                have a4 := HST.out
                unfold badN
                omega
              have HOK := Lib.hid hok; clear hok
              go_wp2_with (go_at_call 28; refine (is_any _ _).mono ?_; rintro e w' ⟨rfl, rfl⟩)
              go_ret3
              exact ⟨rRead_neg HF.out HR.out H45.out (by have := HM.out; omega) (by omega) HOK.out, rfl⟩
        · have hb : badN s.data.toList (p + 1) k := .inr (.inl (satR_bad HS.out))
          clear gf
          have HB := Lib.hid hb; clear hb
          go_wp2_with (go_at_call 28; refine (is_any _ _).mono ?_; rintro e w' ⟨rfl, rfl⟩)
          go_ret3
          exact ⟨rRead_bad HF.out HR.out rfl HB.out, rfl⟩

set_option maxRecDepth 100000 in
set_option maxHeartbeats 2000000 in
theorem rRead_plain (s : ByteArray) (p : Nat) (w : World) (hs : s.size ≤ 9223372036854775807) (hp : p < s.size) (h45 : ¬ (s[p].toNat : Int) = 45) :
    Calls Tryd.prog 17 #[.string s, .int .i64 p] w fun e w' =>
      e = .returned (.tuple #[.int .i64 (rdN s.data.toList p).1, .int .i64 (rdN s.data.toList p).2.1, .int .i64 (rdN s.data.toList p).2.2]) ∧ w = w' := by
  have hfst := fst_le s.data.toList p hp
  rw [len_data] at hfst
  have hd0 : decide ((p : Int) < 0) = false := decide_eq_false (by omega)
  have hd1 : decide (s.size ≤ p) = false := decide_eq_false (by omega)
  have hb45 : ¬ byt s.data.toList p = 45 := by rw [byt_get s p hp]; exact h45
  have t1 : ((s[p].toNat : Int) == 45) = false := by simpa using h45
  have hf : fstN s.data.toList p = p := by rw [fstN, if_neg hb45]
  rw [hf] at hfst
  have HF := Lib.hid hf; clear hf
  have H45 := Lib.hid hb45; clear hb45
  clear h45
  go_enter Tryd.func17, Tryd.ntmps17
  go_wp2_with fail
  go_loop [7, 9, 10] (fun a n b => ∃ (k : Nat) (m : Int) (g : Bool), digsK s.data.toList (p) k = true ∧ p + k ≤ s.size ∧ a = .int .i64 (p + k : Nat) ∧ n = .int .i64 m ∧ b = .bool g ∧ satR (accD s.data.toList (p) k) m g) (fun a _ _ => s.size - (intOf a).toNat)
  case atStart => exact ⟨0, 0, false, rfl, by omega, rfl, rfl, rfl, satR_0⟩
  case round =>
    obtain ⟨k, m, g, hd, hk, rfl, rfl, rfl, hsat⟩ := hrel
    have HD := Lib.hid hd; clear hd
    have hbnd := satR_bnd hsat
    have HS := Lib.hid hsat; clear hsat
    by_cases hlt : p + k < s.size
    · have hlb : decide (p + k < s.size) = true := decide_eq_true hlt
      have g1 := byt_get s (p + k) hlt
      have G := Lib.hid g1
      by_cases hb : isD (byt s.data.toList (p + k)) = true
      · have hb2 := isD_yes hb
        rw [g1] at hb hb2
        clear g1
        by_cases hgt : 900719925474099 < m
        · have x0 : decide (900719925474099 < m) = true := decide_eq_true hgt
          have hnext : satR (accD s.data.toList (p) (k + 1)) m true := by rw [accD]; exact satR_great HS.out (.inr hgt)
          have HN := Lib.hid hnext; clear hnext
          go_wp2_with (go_at_call 28; refine (is_any _ _).mono ?_; rintro e w' ⟨rfl, rfl⟩)
          go_round
          case rel => exact ⟨k + 1, m, true, by rw [digsK, HD.out, G.out]; simpa using hb, by omega, by go_num, rfl, rfl, HN.out⟩
          case measure => simp [intOf]; omega
        · have x0 : decide (900719925474099 < m) = false := decide_eq_false hgt
          cases g
          · have hnext : satR (accD s.data.toList (p) (k + 1)) (m * 10 + (s[p + k].toNat : Int) - 48) false := by
              have h := satR_go (d := ((s[p + k].toNat : Int) - 48).toNat) HS.out hgt (by omega)
              rw [accD, G.out, show m * 10 + (s[p + k].toNat : Int) - 48 = m * 10 + (((s[p + k].toNat : Int) - 48).toNat : Nat) by omega]
              exact h
            have HN := Lib.hid hnext; clear hnext
            go_wp2_with (go_at_call 28; refine (is_any _ _).mono ?_; rintro e w' ⟨rfl, rfl⟩)
            go_round
            case rel => exact ⟨k + 1, _, false, by rw [digsK, HD.out, G.out]; simpa using hb, by omega, by go_num, rfl, rfl, HN.out⟩
            case measure => simp [intOf]; omega
          · have hnext : satR (accD s.data.toList (p) (k + 1)) m true := by rw [accD]; exact satR_great HS.out (.inl rfl)
            have HN := Lib.hid hnext; clear hnext
            go_wp2_with (go_at_call 28; refine (is_any _ _).mono ?_; rintro e w' ⟨rfl, rfl⟩)
            go_round
            case rel => exact ⟨k + 1, m, true, by rw [digsK, HD.out, G.out]; simpa using hb, by omega, by go_num, rfl, rfl, HN.out⟩
            case measure => simp [intOf]; omega
      · have hb' : isD (s[p + k].toNat : Int) = false := by rw [← g1]; simpa using hb
        have hz : isD (byt s.data.toList (p + k)) = false := by rw [G.out]; exact hb'
        have HZ := Lib.hid hz; clear hz
        clear g1 hb
        have hrun := runL_eq HD.out HZ.out
        have HR := Lib.hid hrun; clear hrun
        by_cases hk0 : k = 0
        · have x1 : (((p : Int)) + (k : Int) == ((p : Int))) = true := by simp; omega
          have HK := Lib.hid hk0; clear hk0
          go_wp2_with (go_at_call 28; refine (is_any _ _).mono ?_; rintro e w' ⟨rfl, rfl⟩)
          go_ret3
          exact ⟨rRead_bad HF.out HR.out rfl (.inl HK.out), rfl⟩
        · have x1 : (((p : Int)) + (k : Int) == ((p : Int))) = false := by simp; omega
          have x2 : IntKind.i64.wrap (((p : Int)) + (k : Int) - ((p : Int))) = (k : Int) := by rw [show ((p : Int)) + (k : Int) - ((p : Int)) = (k : Int) by omega]; exact IntWalk.i64_in _ (by omega)
          have x3 : ((p : Int)) + (k : Int) - ((p : Int)) = (k : Int) := by omega
          have hfi : p < s.size := by omega
          have gf := byt_get s (p) hfi
          cases g
          · obtain ⟨hm, hm0, hm1⟩ := satR_yes HS.out
            by_cases hmx : 9007199254740991 < m
            · have x4 : decide (9007199254740991 < m) = true := decide_eq_true hmx
              have hb : badN s.data.toList (p) k := .inr (.inl (by show 9007199254740991 < _; omega))
              clear gf hm
              have HB := Lib.hid hb; clear hb
              go_wp2_with (go_at_call 28; refine (is_any _ _).mono ?_; rintro e w' ⟨rfl, rfl⟩)
              go_ret3
              exact ⟨rRead_bad HF.out HR.out rfl HB.out, rfl⟩
            · have x4 : decide (9007199254740991 < m) = false := decide_eq_false hmx
              have HM := Lib.hid hm; clear hm
              by_cases h1k : 1 < k
              · have x5 : decide (1 < (k : Int)) = true := decide_eq_true (by omega)
                have x5' : decide (1 < k) = true := decide_eq_true (by omega)
                by_cases h48 : (s[p].toNat : Int) = 48
                · have x6 : ((s[p].toNat : Int) == 48) = true := by simpa using h48
                  have hb : badN s.data.toList (p) k := .inr (.inr (.inl ⟨h1k, by omega⟩))
                  have HB := Lib.hid hb; clear hb
                  clear gf h48
                  go_wp2_with (go_at_call 28; refine (is_any _ _).mono ?_; rintro e w' ⟨rfl, rfl⟩)
                  go_ret3
                  exact ⟨rRead_bad HF.out HR.out rfl HB.out, rfl⟩
                · have x6 : ((s[p].toNat : Int) == 48) = false := by simpa using h48
                  have hno : ¬ (1 < k ∧ byt s.data.toList (p) = 48) := by omega
                  have HNO := Lib.hid hno; clear hno
                  clear gf h48
                  have gs := byt_get s (p + k) hlt
                  have GS := Lib.hid gs; clear gs
                  by_cases h46 : (s[p + k].toNat : Int) = 46
                  · have y46 : ((s[p + k].toNat : Int) == 46) = true := by simpa using h46
                    have hb : badN s.data.toList (p) k := mem_stop (by have := GS.out; omega)
                    have HB := Lib.hid hb; clear hb h46
                    go_wp2_with (go_at_call 28; refine (is_any _ _).mono ?_; rintro e w' ⟨rfl, rfl⟩)
                    go_ret3
                    exact ⟨rRead_bad HF.out HR.out rfl HB.out, rfl⟩
                  · have y46 : ((s[p + k].toNat : Int) == 46) = false := by simpa using h46
                    have H46 := Lib.hid h46; clear h46
                    by_cases h101 : (s[p + k].toNat : Int) = 101
                    · have y101 : ((s[p + k].toNat : Int) == 101) = true := by simpa using h101
                      have hb : badN s.data.toList (p) k := mem_stop (by have := GS.out; omega)
                      have HB := Lib.hid hb; clear hb h101
                      go_wp2_with (go_at_call 28; refine (is_any _ _).mono ?_; rintro e w' ⟨rfl, rfl⟩)
                      go_ret3
                      exact ⟨rRead_bad HF.out HR.out rfl HB.out, rfl⟩
                    · have y101 : ((s[p + k].toNat : Int) == 101) = false := by simpa using h101
                      have H101 := Lib.hid h101; clear h101
                      by_cases h69 : (s[p + k].toNat : Int) = 69
                      · have y69 : ((s[p + k].toNat : Int) == 69) = true := by simpa using h69
                        have hb : badN s.data.toList (p) k := mem_stop (by have := GS.out; omega)
                        have HB := Lib.hid hb; clear hb h69
                        go_wp2_with (go_at_call 28; refine (is_any _ _).mono ?_; rintro e w' ⟨rfl, rfl⟩)
                        go_ret3
                        exact ⟨rRead_bad HF.out HR.out rfl HB.out, rfl⟩
                      · have y69 : ((s[p + k].toNat : Int) == 69) = false := by simpa using h69
                        have H69 := Lib.hid h69; clear h69
                        have hst : ¬ (byt s.data.toList (p + k) = 46 ∨ byt s.data.toList (p + k) = 101 ∨ byt s.data.toList (p + k) = 69) := by have := GS.out; have := H46.out; have := H101.out; have := H69.out; omega
                        have HST := Lib.hid hst; clear hst
                        have hok : ¬ badN s.data.toList (p) k := by
                          have a1 := HNO.out
                          have a2 := HM.out
                          have a3 : maxN = 9007199254740991 := rfl
                          have a4 := HST.out
                          unfold badN
                          omega
                        have HOK := Lib.hid hok; clear hok
                        go_wp2_with (go_at_call 28; refine (is_any _ _).mono ?_; rintro e w' ⟨rfl, rfl⟩)
                        go_ret3
                        exact ⟨rRead_pos HF.out HR.out H45.out (by have := HM.out; omega) (by omega) HOK.out, rfl⟩
              · have x5 : decide (1 < (k : Int)) = false := decide_eq_false (by omega)
                have x5' : decide (1 < k) = false := decide_eq_false (by omega)
                have hno : ¬ (1 < k ∧ byt s.data.toList (p) = 48) := by omega
                have HNO := Lib.hid hno; clear hno
                clear gf
                have gs := byt_get s (p + k) hlt
                have GS := Lib.hid gs; clear gs
                by_cases h46 : (s[p + k].toNat : Int) = 46
                · have y46 : ((s[p + k].toNat : Int) == 46) = true := by simpa using h46
                  have hb : badN s.data.toList (p) k := mem_stop (by have := GS.out; omega)
                  have HB := Lib.hid hb; clear hb h46
                  go_wp2_with (go_at_call 28; refine (is_any _ _).mono ?_; rintro e w' ⟨rfl, rfl⟩)
                  go_ret3
                  exact ⟨rRead_bad HF.out HR.out rfl HB.out, rfl⟩
                · have y46 : ((s[p + k].toNat : Int) == 46) = false := by simpa using h46
                  have H46 := Lib.hid h46; clear h46
                  by_cases h101 : (s[p + k].toNat : Int) = 101
                  · have y101 : ((s[p + k].toNat : Int) == 101) = true := by simpa using h101
                    have hb : badN s.data.toList (p) k := mem_stop (by have := GS.out; omega)
                    have HB := Lib.hid hb; clear hb h101
                    go_wp2_with (go_at_call 28; refine (is_any _ _).mono ?_; rintro e w' ⟨rfl, rfl⟩)
                    go_ret3
                    exact ⟨rRead_bad HF.out HR.out rfl HB.out, rfl⟩
                  · have y101 : ((s[p + k].toNat : Int) == 101) = false := by simpa using h101
                    have H101 := Lib.hid h101; clear h101
                    by_cases h69 : (s[p + k].toNat : Int) = 69
                    · have y69 : ((s[p + k].toNat : Int) == 69) = true := by simpa using h69
                      have hb : badN s.data.toList (p) k := mem_stop (by have := GS.out; omega)
                      have HB := Lib.hid hb; clear hb h69
                      go_wp2_with (go_at_call 28; refine (is_any _ _).mono ?_; rintro e w' ⟨rfl, rfl⟩)
                      go_ret3
                      exact ⟨rRead_bad HF.out HR.out rfl HB.out, rfl⟩
                    · have y69 : ((s[p + k].toNat : Int) == 69) = false := by simpa using h69
                      have H69 := Lib.hid h69; clear h69
                      have hst : ¬ (byt s.data.toList (p + k) = 46 ∨ byt s.data.toList (p + k) = 101 ∨ byt s.data.toList (p + k) = 69) := by have := GS.out; have := H46.out; have := H101.out; have := H69.out; omega
                      have HST := Lib.hid hst; clear hst
                      have hok : ¬ badN s.data.toList (p) k := by
                        have a1 := HNO.out
                        have a2 := HM.out
                        have a3 : maxN = 9007199254740991 := rfl
                        have a4 := HST.out
                        unfold badN
                        omega
                      have HOK := Lib.hid hok; clear hok
                      go_wp2_with (go_at_call 28; refine (is_any _ _).mono ?_; rintro e w' ⟨rfl, rfl⟩)
                      go_ret3
                      exact ⟨rRead_pos HF.out HR.out H45.out (by have := HM.out; omega) (by omega) HOK.out, rfl⟩
          · have hb : badN s.data.toList (p) k := .inr (.inl (satR_bad HS.out))
            clear gf
            have HB := Lib.hid hb; clear hb
            go_wp2_with (go_at_call 28; refine (is_any _ _).mono ?_; rintro e w' ⟨rfl, rfl⟩)
            go_ret3
            exact ⟨rRead_bad HF.out HR.out rfl HB.out, rfl⟩
    · have hlb : decide (p + k < s.size) = false := decide_eq_false hlt
      have hz : isD (byt s.data.toList (p + k)) = false := by rw [byt_out (by rw [len_data]; omega)]; rfl
      have HZ := Lib.hid hz; clear hz
      have hrun := runL_eq HD.out HZ.out
      have HR := Lib.hid hrun; clear hrun
      by_cases hk0 : k = 0
      · have x1 : (((p : Int)) + (k : Int) == ((p : Int))) = true := by simp; omega
        have HK := Lib.hid hk0; clear hk0
        go_wp2_with (go_at_call 28; refine (is_any _ _).mono ?_; rintro e w' ⟨rfl, rfl⟩)
        go_ret3
        exact ⟨rRead_bad HF.out HR.out rfl (.inl HK.out), rfl⟩
      · have x1 : (((p : Int)) + (k : Int) == ((p : Int))) = false := by simp; omega
        have x2 : IntKind.i64.wrap (((p : Int)) + (k : Int) - ((p : Int))) = (k : Int) := by rw [show ((p : Int)) + (k : Int) - ((p : Int)) = (k : Int) by omega]; exact IntWalk.i64_in _ (by omega)
        have x3 : ((p : Int)) + (k : Int) - ((p : Int)) = (k : Int) := by omega
        have hfi : p < s.size := by omega
        have gf := byt_get s (p) hfi
        cases g
        · obtain ⟨hm, hm0, hm1⟩ := satR_yes HS.out
          by_cases hmx : 9007199254740991 < m
          · have x4 : decide (9007199254740991 < m) = true := decide_eq_true hmx
            have hb : badN s.data.toList (p) k := .inr (.inl (by show 9007199254740991 < _; omega))
            clear gf hm
            have HB := Lib.hid hb; clear hb
            go_wp2_with (go_at_call 28; refine (is_any _ _).mono ?_; rintro e w' ⟨rfl, rfl⟩)
            go_ret3
            exact ⟨rRead_bad HF.out HR.out rfl HB.out, rfl⟩
          · have x4 : decide (9007199254740991 < m) = false := decide_eq_false hmx
            have HM := Lib.hid hm; clear hm
            by_cases h1k : 1 < k
            · have x5 : decide (1 < (k : Int)) = true := decide_eq_true (by omega)
              have x5' : decide (1 < k) = true := decide_eq_true (by omega)
              by_cases h48 : (s[p].toNat : Int) = 48
              · have x6 : ((s[p].toNat : Int) == 48) = true := by simpa using h48
                have hb : badN s.data.toList (p) k := .inr (.inr (.inl ⟨h1k, by omega⟩))
                have HB := Lib.hid hb; clear hb
                clear gf h48
                go_wp2_with (go_at_call 28; refine (is_any _ _).mono ?_; rintro e w' ⟨rfl, rfl⟩)
                go_ret3
                exact ⟨rRead_bad HF.out HR.out rfl HB.out, rfl⟩
              · have x6 : ((s[p].toNat : Int) == 48) = false := by simpa using h48
                have hno : ¬ (1 < k ∧ byt s.data.toList (p) = 48) := by omega
                have HNO := Lib.hid hno; clear hno
                clear gf h48
                have hst : byt s.data.toList (p + k) = 0 := byt_out (by rw [len_data]; omega)
                have HST := Lib.hid hst; clear hst
                have hok : ¬ badN s.data.toList (p) k := by
                  have a1 := HNO.out
                  have a2 := HM.out
                  have a3 : maxN = 9007199254740991 := rfl
                  have a4 := HST.out
                  unfold badN
                  omega
                have HOK := Lib.hid hok; clear hok
                go_wp2_with (go_at_call 28; refine (is_any _ _).mono ?_; rintro e w' ⟨rfl, rfl⟩)
                go_ret3
                exact ⟨rRead_pos HF.out HR.out H45.out (by have := HM.out; omega) (by omega) HOK.out, rfl⟩
            · have x5 : decide (1 < (k : Int)) = false := decide_eq_false (by omega)
              have x5' : decide (1 < k) = false := decide_eq_false (by omega)
              have hno : ¬ (1 < k ∧ byt s.data.toList (p) = 48) := by omega
              have HNO := Lib.hid hno; clear hno
              clear gf
              have hst : byt s.data.toList (p + k) = 0 := byt_out (by rw [len_data]; omega)
              have HST := Lib.hid hst; clear hst
              have hok : ¬ badN s.data.toList (p) k := by
                have a1 := HNO.out
                have a2 := HM.out
                have a3 : maxN = 9007199254740991 := rfl
                have a4 := HST.out
                unfold badN
                omega
              have HOK := Lib.hid hok; clear hok
              go_wp2_with (go_at_call 28; refine (is_any _ _).mono ?_; rintro e w' ⟨rfl, rfl⟩)
              go_ret3
              exact ⟨rRead_pos HF.out HR.out H45.out (by have := HM.out; omega) (by omega) HOK.out, rfl⟩
        · have hb : badN s.data.toList (p) k := .inr (.inl (satR_bad HS.out))
          clear gf
          have HB := Lib.hid hb; clear hb
          go_wp2_with (go_at_call 28; refine (is_any _ _).mono ?_; rintro e w' ⟨rfl, rfl⟩)
          go_ret3
          exact ⟨rRead_bad HF.out HR.out rfl HB.out, rfl⟩

end Go.Proofs.YtoflogckoepioaaDoor.Nu
