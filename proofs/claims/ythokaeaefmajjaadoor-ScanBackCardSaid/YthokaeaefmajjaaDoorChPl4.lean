import Derived.Test.YthokaeaefmajjaaDoorChPl3
/- Plain facts on quoting: what is quoted is read as it was; what is read behind its closing quote doesn't matter. No run of the program in this text. -/
namespace Go.Proofs.YthokaeaefmajjaaDoor.Ch
open Go.RowKit
open Go.Proofs.YthokaeaefmajjaaDoor.Utf

def toB (l : List Int) : List UInt8 := l.map fun x => UInt8.ofNat x.toNat
theorem toB_len (l : List Int) : (toB l).length = l.length := by simp [toB]
theorem byt_toB (xs : List Int) (r : List UInt8) (k : Nat) (x : Int) (h : xs[k]? = some x) (h0 : 0 ≤ x) (h1 : x < 256) : byt (toB xs ++ r) k = x := by
  have hk : k < xs.length := by
    rcases Nat.lt_or_ge k xs.length with h2 | h2
    · exact h2
    · rw [List.getElem?_eq_none h2] at h; cases h
  rw [byt_app _ _ _ (by rw [toB_len]; exact hk)]
  unfold byt toB
  rw [List.getD_eq_getElem?_getD, List.getElem?_map, h]
  simp
  omega
theorem byteCells_toB (l : List Int) (h : ∀ x ∈ l, 0 ≤ x ∧ x < 256) : Lib.byteCells (toB l) = l.map (Value.int .u8) := by
  simp only [Lib.byteCells, toB, List.map_map]
  apply List.map_congr_left
  intro x hx
  obtain ⟨h0, h1⟩ := h x hx
  simp [Function.comp]
  omega

/-- a small digit of hexadecimal, as a byte -/
def hexV (d : Int) : Int := if d < 10 then 48 + d else 87 + d
theorem hexV_bd {d : Int} (h0 : 0 ≤ d) (h1 : d ≤ 15) : 48 ≤ hexV d ∧ hexV d ≤ 102 := by unfold hexV; split <;> omega
theorem digV_hexV {d : Int} (h0 : 0 ≤ d) (h1 : d ≤ 15) : digV (hexV d) = d := by unfold digV hexV; (repeat' split) <;> omega
/-- a great one -/
def hexU (d : Int) : Int := if d < 10 then 48 + d else 55 + d
theorem hexU_bd {d : Int} (h0 : 0 ≤ d) (h1 : d ≤ 15) : 48 ≤ hexU d ∧ hexU d ≤ 70 := by unfold hexU; split <;> omega
theorem digV_hexU {d : Int} (h0 : 0 ≤ d) (h1 : d ≤ 15) : digV (hexU d) = d := by unfold digV hexU; (repeat' split) <;> omega

/-- a number that is escaped is there -/
theorem unitL_toB (a b c d x y z t : Int) (r : List UInt8) (ha : digV a = x) (hb : digV b = y) (hc : digV c = z) (hd : digV d = t) (h : 0 ≤ x ∧ 0 ≤ y ∧ 0 ≤ z ∧ 0 ≤ t)
    (ba : 0 ≤ a ∧ a < 256) (bb : 0 ≤ b ∧ b < 256) (bc : 0 ≤ c ∧ c < 256) (bd : 0 ≤ d ∧ d < 256) : unitL (toB [92, 117, a, b, c, d] ++ r) = ((x * 16 + y) * 16 + z) * 16 + t := by
  have e2 := byt_toB [92, 117, a, b, c, d] r 2 a rfl ba.1 ba.2
  have e3 := byt_toB [92, 117, a, b, c, d] r 3 b rfl bb.1 bb.2
  have e4 := byt_toB [92, 117, a, b, c, d] r 4 c rfl bc.1 bc.2
  have e5 := byt_toB [92, 117, a, b, c, d] r 5 d rfl bd.1 bd.2
  rw [unitL_is (by rw [List.length_append, toB_len]; simp) (byt_toB _ r 0 92 rfl (by decide) (by decide)) (byt_toB _ r 1 117 rfl (by decide) (by decide)) (by simp [hexOk, e2, e3, e4, e5, ha, hb, hc, hd, h])]
  simp [hexN, e2, e3, e4, e5, ha, hb, hc, hd]

/-- is a point, or a byte, quoted otherwise than as itself? -/
def special (p : Int) : Bool := decide (p < 32 ∨ p = 34 ∨ p = 92)
def escZ (p : Int) : List Int :=
  if p = 34 ∨ p = 92 then [92, p] else if p = 8 then [92, 98] else if p = 9 then [92, 116] else if p = 10 then [92, 110] else if p = 12 then [92, 102] else if p = 13 then [92, 114]
  else [92, 117, 48, 48, hexV (p / 16), hexV (p % 16)]
/-- what a point is, quoted; what a byte is -/
def qptZ (p : Int) : List Int := if special p = true then escZ p else encZ p
def qbZ (c : Int) : List Int := if special c = true then escZ c else [c]
def qpt (p : Int) : List UInt8 := toB (qptZ p)
def qb (c : UInt8) : List UInt8 := toB (qbZ c.toNat)
def qL (ps : List Int) : List UInt8 := (ps.map qpt).flatten
def qbL (l : List UInt8) : List UInt8 := (l.map qb).flatten
theorem qL_cons (p : Int) (ps : List Int) : qL (p :: ps) = qpt p ++ qL ps := by simp [qL]
theorem qbL_append (a b : List UInt8) : qbL (a ++ b) = qbL a ++ qbL b := by simp [qbL]
theorem qL_append (a b : List Int) : qL (a ++ b) = qL a ++ qL b := by simp [qL]

theorem escZ_byte {p : Int} (h0 : 0 ≤ p) (h1 : special p = true) : ∀ x ∈ escZ p, 0 ≤ x ∧ x < 256 := by
  simp [special] at h1
  have a := hexV_bd (d := p / 16)
  have b := hexV_bd (d := p % 16)
  intro x hx
  unfold escZ at hx
  by_cases c1 : p = 34 ∨ p = 92
  · rw [if_pos c1] at hx; simp at hx; omega
  · rw [if_neg c1] at hx
    have a := hexV_bd (d := p / 16) (by omega) (by omega)
    have b := hexV_bd (d := p % 16) (by omega) (by omega)
    (repeat' split at hx) <;> (simp at hx; omega)
theorem escZ_le (p : Int) : 2 ≤ (escZ p).length ∧ (escZ p).length ≤ 6 := by unfold escZ; (repeat' split) <;> simp
theorem qbZ_byte (c : Int) (h0 : 0 ≤ c) (h1 : c ≤ 255) : ∀ x ∈ qbZ c, 0 ≤ x ∧ x < 256 := by
  unfold qbZ
  by_cases h : special c = true
  · rw [if_pos h]; exact escZ_byte h0 h
  · rw [if_neg h]; intro x hx; simp at hx; omega
theorem qb_le (c : UInt8) : (qb c).length ≤ 6 := by
  unfold qb qbZ
  rw [toB_len]
  split
  · exact (escZ_le _).2
  · simp
theorem qpt_le (p : Int) : (qpt p).length ≤ 6 := by
  unfold qpt qptZ
  rw [toB_len]
  split
  · exact (escZ_le _).2
  · have := encZ_le p; omega
theorem qbL_le (l : List UInt8) : (qbL l).length ≤ 6 * l.length := by
  induction l with
  | nil => simp [qbL]
  | cons a l ih =>
    have := qb_le a
    simp [qbL] at ih ⊢
    omega

theorem toB_encZ (p : Int) : toB (encZ p) = enc p := rfl
theorem encZ_high {p : Int} (h : isPt p = true) (h1 : 128 ≤ p) : ∀ x ∈ encZ p, 128 ≤ x ∧ x < 256 := by
  have a := isPt_hi h
  intro x hx
  by_cases c1 : p < 2048
  · rw [encZ_2 h h1 c1] at hx; simp at hx; omega
  · by_cases c2 : p < 65536
    · rw [encZ_3 h (by omega) c2] at hx; simp at hx; omega
    · rw [encZ_4 h (by omega)] at hx; simp at hx; omega
theorem flat_self (xs : List Int) (h : ∀ x ∈ xs, 128 ≤ x ∧ x < 256) : qbL (toB xs) = toB xs := by
  induction xs with
  | nil => rfl
  | cons x xs ih =>
    have hx := h x (by simp)
    have e : qb (UInt8.ofNat x.toNat) = [UInt8.ofNat x.toNat] := by
      have : ((UInt8.ofNat x.toNat).toNat : Int) = x := by simp; omega
      unfold qb qbZ
      rw [this, if_neg (by simp [special]; omega)]
      rfl
    have := ih fun y hy => h y (by simp [hy])
    simp [qbL, toB] at this ⊢
    rw [e, this]
    rfl
/-- quoted byte by byte is quoted point by point -/
theorem qbL_enc {p : Int} (h : isPt p = true) : qbL (enc p) = qpt p := by
  have a := isPt_lo h
  by_cases h1 : p < 128
  · have e : enc p = [UInt8.ofNat p.toNat] := by unfold enc; rw [encZ_1 h h1]; rfl
    have e2 : ((UInt8.ofNat p.toNat).toNat : Int) = p := by simp; omega
    rw [e]
    simp only [qbL, List.map_cons, List.map_nil, List.flatten_cons, List.flatten_nil, List.append_nil]
    unfold qb qbZ qpt qptZ
    rw [e2, encZ_1 h h1]
  · have e := flat_self (encZ p) (encZ_high h (by omega))
    rw [toB_encZ] at e
    rw [e]
    unfold qpt qptZ
    rw [if_neg (by simp [special]; omega)]
    rfl
theorem qbL_encL (ps : List Int) (h : ∀ p ∈ ps, isPt p = true) : qbL (encL ps) = qL ps := by
  induction ps with
  | nil => rfl
  | cons p ps ih => rw [encL_cons, qbL_append, qL_cons, qbL_enc (h p (by simp)), ih fun q hq => h q (by simp [hq])]

/-- a point that is quoted is read as it was -/
theorem stepL_let (c p : Int) (r : List UInt8) (h0 : 0 ≤ c) (h1 : c < 256) (hp : letV c = p) (hp0 : 0 ≤ p) : stepL (toB [92, c] ++ r) = (p, 2, 0) := by
  have e0 := byt_toB [92, c] r 0 92 rfl (by decide) (by decide)
  have e1 := byt_toB [92, c] r 1 c rfl h0 h1
  have hl : 2 ≤ (toB [92, c] ++ r).length := by rw [List.length_append, toB_len]; simp
  have e := (escU_let (l := toB [92, c] ++ r) hl (by rw [e1, hp]; exact hp0)).2
  rw [stepL_esc (by omega) e0, e, e1, hp]
  rfl
theorem stepL_unit {l : List UInt8} {p : Int} (h : unitL l = p) (hp : isPt p = true) : stepL l = (p, 6, 0) := by
  have a := isPt_lo hp
  obtain ⟨h1, h2, _⟩ := unitL_yes (l := l) (by omega)
  have e : escL l = (p, 6) := by rw [escL_unit (by omega), h, if_pos hp]
  rw [stepL_esc (by omega) h2, e]
  rfl
theorem stepL_qpt {p : Int} (h : isPt p = true) (r : List UInt8) : stepL (qpt p ++ r) = (p, ((qpt p).length : Int), 0) ∧ (qpt p).length ≠ 0 := by
  have a := isPt_lo h
  unfold qpt qptZ
  by_cases hs : special p = true
  · rw [if_pos hs]
    have hs' : p < 32 ∨ p = 34 ∨ p = 92 := by simpa [special] using hs
    refine ⟨?_, by rw [toB_len]; have := escZ_le p; omega⟩
    unfold escZ
    by_cases c1 : p = 34 ∨ p = 92
    · rw [if_pos c1]
      rcases c1 with rfl | rfl
      · exact stepL_let 34 34 r (by decide) (by decide) (by decide) (by decide)
      · exact stepL_let 92 92 r (by decide) (by decide) (by decide) (by decide)
    · rw [if_neg c1]
      by_cases c2 : p = 8
      · subst c2; exact stepL_let 98 8 r (by decide) (by decide) (by decide) (by decide)
      · rw [if_neg c2]
        by_cases c3 : p = 9
        · subst c3; exact stepL_let 116 9 r (by decide) (by decide) (by decide) (by decide)
        · rw [if_neg c3]
          by_cases c4 : p = 10
          · subst c4; exact stepL_let 110 10 r (by decide) (by decide) (by decide) (by decide)
          · rw [if_neg c4]
            by_cases c5 : p = 12
            · subst c5; exact stepL_let 102 12 r (by decide) (by decide) (by decide) (by decide)
            · rw [if_neg c5]
              by_cases c6 : p = 13
              · subst c6; exact stepL_let 114 13 r (by decide) (by decide) (by decide) (by decide)
              · rw [if_neg c6]
                have b1 := hexV_bd (d := p / 16) (by omega) (by omega)
                have b2 := hexV_bd (d := p % 16) (by omega) (by omega)
                have := unitL_toB 48 48 (hexV (p / 16)) (hexV (p % 16)) 0 0 (p / 16) (p % 16) r (by decide) (by decide) (digV_hexV (by omega) (by omega)) (digV_hexV (by omega) (by omega)) (by omega) (by decide) (by decide) (by omega) (by omega)
                exact stepL_unit (p := p) (by rw [this]; omega) h
  · rw [if_neg hs, toB_encZ]
    have hs' : ¬ (p < 32 ∨ p = 34 ∨ p = 92) := by simpa [special] using hs
    have hpos := enc_pos h
    have e := oneL_enc p h r
    have h0 : (enc p ++ r).length ≠ 0 := by rw [List.length_append]; omega
    have hb : byt (enc p ++ r) 0 = p ∨ 128 ≤ byt (enc p ++ r) 0 := by
      by_cases h1 : p < 128
      · exact .inl (byt_enc p r 0 p (by rw [encZ_1 h h1]; rfl))
      · right
        have hz := encZ_high h (by omega)
        have hl : 0 < (encZ p).length := by rw [← enc_len]; omega
        have := byt_enc p r 0 (encZ p)[0] (List.getElem?_eq_getElem hl)
        have := hz _ (List.getElem_mem hl)
        omega
    refine ⟨?_, by omega⟩
    rw [stepL_pt h0 (by omega) (by omega) (by omega), e, if_neg (by simp only; omega)]

/-- what is quoted is read as it was, whatever comes behind -/
theorem readL_qL (ps : List Int) (h : ∀ p ∈ ps, isPt p = true) (r : List UInt8) : readL (qL ps ++ r) = (ps ++ (readL r).1, (qL ps).length + (readL r).2.1, (readL r).2.2) := by
  induction ps with
  | nil => simp [qL]
  | cons p ps ih =>
    obtain ⟨e, hn⟩ := stepL_qpt (h p (by simp)) (qL ps ++ r)
    rw [qL_cons, List.append_assoc, readL_go (by rw [e]; simp only; omega), e]
    simp only [Int.toNat_natCast, List.drop_left']
    rw [ih fun q hq => h q (by simp [hq])]
    simp [Nat.add_assoc]
theorem readL_close (r : List UInt8) : readL (34 :: r) = ([], 0, 0) := by
  have e : stepL (34 :: r) = (0, 0, 0) := stepL_quote (by simp) rfl
  rw [readL_stop (by rw [e]), e]
end Go.Proofs.YthokaeaefmajjaaDoor.Ch
