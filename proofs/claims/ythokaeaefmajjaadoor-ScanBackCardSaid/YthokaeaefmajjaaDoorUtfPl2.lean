import Derived.Test.YthokaeaefmajjaaDoorUtfPl
/- Plain facts: what is read of a point's bytes is the point, whatever stands behind; and what is read has just these bytes. No run of the program in this text. -/
namespace Go.Proofs.YthokaeaefmajjaaDoor.Utf
open Go.RowKit

theorem enc_len (p : Int) : (enc p).length = (encZ p).length := by simp [enc]
theorem byt_enc (p : Int) (r : List UInt8) (k : Nat) (x : Int) (h : (encZ p)[k]? = some x) : byt (enc p ++ r) k = x := by
  have hk : k < (encZ p).length := by
    rcases Nat.lt_or_ge k (encZ p).length with h1 | h1
    · exact h1
    · rw [List.getElem?_eq_none h1] at h; cases h
  have hx := encZ_byte p x (List.mem_of_getElem? h)
  have : (enc p ++ r)[k]? = some (UInt8.ofNat x.toNat) := by
    rw [List.getElem?_append_left (by rw [enc_len]; exact hk), enc, List.getElem?_map, h]; rfl
  unfold byt
  rw [List.getD_eq_getElem?_getD, this]
  simp
  omega

theorem behS_eq (l : List UInt8) (b : Int) (n : Nat) (m : Int) (p : Int) (hl : n ≤ l.length) (hc : contN l (n - 1) = true) (ha : accN b l (n - 1) = p) (h1 : m ≤ p) (h2 : isPt p = true) : behS l b n m = (p, (n : Int)) := by
  unfold behS
  rw [if_neg (by omega), if_neg (by rw [hc]; decide), ha, if_neg]
  rintro (a | a)
  · omega
  · rw [h2] at a; cases a

theorem oneL_enc (p : Int) (h : isPt p = true) (r : List UInt8) : oneL (enc p ++ r) = (p, ((enc p).length : Int)) := by
  have h0 := isPt_lo h
  have h1 := isPt_hi h
  have hl : (enc p ++ r).length = (enc p).length + r.length := List.length_append
  by_cases c1 : p < 128
  · have e := encZ_1 h c1
    have b0 := byt_enc p r 0 p (by rw [e]; rfl)
    have hn : (enc p).length = 1 := by rw [enc_len, e]; rfl
    unfold oneL
    rw [if_neg (by omega), b0, if_pos c1, hn]; rfl
  · by_cases c2 : p < 2048
    · have e := encZ_2 h (by omega) c2
      have b0 := byt_enc p r 0 _ (by rw [e]; rfl)
      have b1 := byt_enc p r 1 (128 + p % 64) (by rw [e]; rfl)
      have hn : (enc p).length = 2 := by rw [enc_len, e]; rfl
      unfold oneL
      rw [if_neg (by omega), b0, if_neg (by omega), if_neg (by omega), if_pos (by omega), hn]
      refine behS_eq _ _ _ _ p (by omega) ?_ ?_ (by omega) h
      · simp [contN, b1]; omega
      · simp [accN, b1]; omega
    · by_cases c3 : p < 65536
      · have e := encZ_3 h (by omega) c3
        have b0 := byt_enc p r 0 _ (by rw [e]; rfl)
        have b1 := byt_enc p r 1 (128 + p / 64 % 64) (by rw [e]; rfl)
        have b2 := byt_enc p r 2 (128 + p % 64) (by rw [e]; rfl)
        have hn : (enc p).length = 3 := by rw [enc_len, e]; rfl
        unfold oneL
        rw [if_neg (by omega), b0, if_neg (by omega), if_neg (by omega), if_neg (by omega), if_pos (by omega), hn]
        refine behS_eq _ _ _ _ p (by omega) ?_ ?_ (by omega) h
        · simp [contN, b1, b2]; omega
        · simp [accN, b1, b2]; omega
      · have e := encZ_4 h (by omega)
        have b0 := byt_enc p r 0 _ (by rw [e]; rfl)
        have b1 := byt_enc p r 1 (128 + p / 4096 % 64) (by rw [e]; rfl)
        have b2 := byt_enc p r 2 (128 + p / 64 % 64) (by rw [e]; rfl)
        have b3 := byt_enc p r 3 (128 + p % 64) (by rw [e]; rfl)
        have hn : (enc p).length = 4 := by rw [enc_len, e]; rfl
        unfold oneL
        rw [if_neg (by omega), b0, if_neg (by omega), if_neg (by omega), if_neg (by omega), if_neg (by omega), if_pos (by omega), hn]
        refine behS_eq _ _ _ _ p (by omega) ?_ ?_ (by omega) h
        · simp [contN, b1, b2, b3]; omega
        · simp [accN, b1, b2, b3]; omega

theorem two_of (l : List UInt8) (h : 2 ≤ l.length) : ∃ b c r, l = b :: c :: r := by
  cases l with
  | nil => simp at h
  | cons b l =>
    cases l with
    | nil => simp at h
    | cons c r => exact ⟨b, c, r, rfl⟩
theorem three_of (l : List UInt8) (h : 3 ≤ l.length) : ∃ b c d r, l = b :: c :: d :: r := by
  obtain ⟨b, c, r, rfl⟩ := two_of l (by omega)
  cases r with
  | nil => simp at h
  | cons d r => exact ⟨b, c, d, r, rfl⟩
theorem u8_of (x : Int) (a : UInt8) (h : x = (a.toNat : Int)) : UInt8.ofNat x.toNat = a := by subst h; simp

theorem behS_cases (l : List UInt8) (b : Int) (n : Nat) (m : Int) : behS l b n m = (0, 0) ∨ (n ≤ l.length ∧ contN l (n - 1) = true ∧ m ≤ accN b l (n - 1) ∧ isPt (accN b l (n - 1)) = true ∧ behS l b n m = (accN b l (n - 1), (n : Int))) := by
  unfold behS
  split
  · exact .inl rfl
  · split
    · exact .inl rfl
    · split
      · exact .inl rfl
      · rename_i a b c
        refine .inr ⟨by omega, by simpa using b, ?_, ?_, rfl⟩
        · omega
        · cases hq : isPt (accN _ l (n - 1)) with
          | true => rfl
          | false => exact absurd (Or.inr hq) c

/-- What is read of a text: nothing; or a point, with whose bytes the text begins. -/
def Reads1 (l : List UInt8) (o : Int × Int) : Prop := o = (0, 0) ∨ (isPt o.1 = true ∧ o.2 = ((enc o.1).length : Int) ∧ enc o.1 ++ l.drop (enc o.1).length = l)

theorem oneL_reads (l : List UInt8) : Reads1 l (oneL l) := by
  cases l with
  | nil => exact .inl rfl
  | cons a l =>
    have hb0 : byt (a :: l) 0 = (a.toNat : Int) := rfl
    have ha := a.toNat_lt
    by_cases c1 : a.toNat < 128
    · have e : oneL (a :: l) = ((a.toNat : Int), 1) := by unfold oneL; rw [if_neg (by simp), hb0, if_pos (by omega)]
      have hp : isPt (a.toNat : Int) = true := by simp [isPt]; omega
      have en : enc (a.toNat : Int) = [a] := by rw [enc, encZ_1 hp (by omega)]; simp
      exact .inr (by rw [e]; simp [hp, en])
    · by_cases c2 : a.toNat < 192
      · exact .inl (by unfold oneL; rw [if_neg (by simp), hb0, if_neg (by omega), if_pos (by omega)])
      · by_cases c3 : a.toNat < 224
        · have e : oneL (a :: l) = behS (a :: l) ((a.toNat : Int) % 32) 2 128 := by unfold oneL; rw [if_neg (by simp), hb0, if_neg (by omega), if_neg (by omega), if_pos (by omega)]
          rw [e]
          rcases behS_cases (a :: l) ((a.toNat : Int) % 32) 2 128 with h | ⟨h1, h2, h3, h4, h5⟩
          · exact .inl h
          · rw [h5]
            cases l with
            | nil => simp at h1
            | cons b l =>
              have hb1 : byt (a :: b :: l) 1 = (b.toNat : Int) := rfl
              have hb := b.toNat_lt
              simp only [contN, accN, hb1, Nat.add_one_sub_one, Bool.true_and, decide_eq_true_eq] at h2 h3 h4 ⊢
              have en : enc ((a.toNat : Int) % 32 * 64 + (b.toNat : Int) % 64) = [a, b] := by
                rw [enc, encZ_2 h4 (by omega) (by omega)]
                simp only [List.map_cons, List.map_nil]
                rw [u8_of _ a (by omega), u8_of _ b (by omega)]
              exact .inr (by simp [h4, en])
        · by_cases c4 : a.toNat < 240
          · have e : oneL (a :: l) = behS (a :: l) ((a.toNat : Int) % 16) 3 2048 := by unfold oneL; rw [if_neg (by simp), hb0, if_neg (by omega), if_neg (by omega), if_neg (by omega), if_pos (by omega)]
            rw [e]
            rcases behS_cases (a :: l) ((a.toNat : Int) % 16) 3 2048 with h | ⟨h1, h2, h3, h4, h5⟩
            · exact .inl h
            · rw [h5]
              obtain ⟨b, c, l, rfl⟩ := two_of l (by simp at h1; omega)
              · skip
                have hb1 : byt (a :: b :: c :: l) 1 = (b.toNat : Int) := rfl
                have hb2 : byt (a :: b :: c :: l) 2 = (c.toNat : Int) := rfl
                have hb := b.toNat_lt
                have hc := c.toNat_lt
                simp only [contN, accN, hb1, hb2, Nat.reduceAdd, Nat.add_one_sub_one, Bool.true_and, Bool.and_eq_true, decide_eq_true_eq] at h2 h3 h4 ⊢
                have en : enc (((a.toNat : Int) % 16 * 64 + (b.toNat : Int) % 64) * 64 + (c.toNat : Int) % 64) = [a, b, c] := by
                  rw [enc, encZ_3 h4 (by omega) (by omega)]
                  simp only [List.map_cons, List.map_nil]
                  rw [u8_of _ a (by omega), u8_of _ b (by omega), u8_of _ c (by omega)]
                exact .inr (by simp [h4, en])
          · by_cases c5 : a.toNat < 248
            · have e : oneL (a :: l) = behS (a :: l) ((a.toNat : Int) % 8) 4 65536 := by unfold oneL; rw [if_neg (by simp), hb0, if_neg (by omega), if_neg (by omega), if_neg (by omega), if_neg (by omega), if_pos (by omega)]
              rw [e]
              rcases behS_cases (a :: l) ((a.toNat : Int) % 8) 4 65536 with h | ⟨h1, h2, h3, h4, h5⟩
              · exact .inl h
              · rw [h5]
                obtain ⟨b, c, d, l, rfl⟩ := three_of l (by simp at h1; omega)
                · skip
                  have hb1 : byt (a :: b :: c :: d :: l) 1 = (b.toNat : Int) := rfl
                  have hb2 : byt (a :: b :: c :: d :: l) 2 = (c.toNat : Int) := rfl
                  have hb3 : byt (a :: b :: c :: d :: l) 3 = (d.toNat : Int) := rfl
                  have hb := b.toNat_lt
                  have hc := c.toNat_lt
                  have hd := d.toNat_lt
                  simp only [contN, accN, hb1, hb2, hb3, Nat.reduceAdd, Nat.add_one_sub_one, Bool.true_and, Bool.and_eq_true, decide_eq_true_eq] at h2 h3 h4 ⊢
                  have h6 := isPt_hi h4
                  have en : enc ((((a.toNat : Int) % 8 * 64 + (b.toNat : Int) % 64) * 64 + (c.toNat : Int) % 64) * 64 + (d.toNat : Int) % 64) = [a, b, c, d] := by
                    rw [enc, encZ_4 h4 (by omega)]
                    simp only [List.map_cons, List.map_nil]
                    rw [u8_of _ a (by omega), u8_of _ b (by omega), u8_of _ c (by omega), u8_of _ d (by omega)]
                  exact .inr (by simp [h4, en])
            · exact .inl (by unfold oneL; rw [if_neg (by simp), hb0, if_neg (by omega), if_neg (by omega), if_neg (by omega), if_neg (by omega), if_neg (by omega)])

/-! ### the document's answer's way -/
def refN (b : Int) : Nat := if 240 ≤ b then 4 else if 224 ≤ b then 3 else if 192 ≤ b then 2 else 1
def refP (b : Int) : Int := if 240 ≤ b then b - 240 else if 224 ≤ b then b - 224 else if 192 ≤ b then b - 192 else b
def refL (l : List UInt8) : Int × Int :=
  if l.length = 0 then (0, 0) else if l.length < refN (byt l 0) then (0, 0)
  else if enc (accN (refP (byt l 0)) l (refN (byt l 0) - 1)) = l.take (refN (byt l 0)) then (accN (refP (byt l 0)) l (refN (byt l 0) - 1), (refN (byt l 0) : Int)) else (0, 0)

theorem refN_1 {b : Int} (h : b < 192) : refN b = 1 := by unfold refN; rw [if_neg (by omega), if_neg (by omega), if_neg (by omega)]
theorem refN_2 {b : Int} (h0 : 192 ≤ b) (h : b < 224) : refN b = 2 := by unfold refN; rw [if_neg (by omega), if_neg (by omega), if_pos (by omega)]
theorem refN_3 {b : Int} (h0 : 224 ≤ b) (h : b < 240) : refN b = 3 := by unfold refN; rw [if_neg (by omega), if_pos (by omega)]
theorem refN_4 {b : Int} (h0 : 240 ≤ b) : refN b = 4 := by unfold refN; rw [if_pos (by omega)]
theorem refP_1 {b : Int} (h : b < 192) : refP b = b := by unfold refP; rw [if_neg (by omega), if_neg (by omega), if_neg (by omega)]
theorem refP_2 {b : Int} (h0 : 192 ≤ b) (h : b < 224) : refP b = b - 192 := by unfold refP; rw [if_neg (by omega), if_neg (by omega), if_pos (by omega)]
theorem refP_3 {b : Int} (h0 : 224 ≤ b) (h : b < 240) : refP b = b - 224 := by unfold refP; rw [if_neg (by omega), if_pos (by omega)]
theorem refP_4 {b : Int} (h0 : 240 ≤ b) : refP b = b - 240 := by unfold refP; rw [if_pos (by omega)]
theorem refL_eq' (l : List UInt8) (n : Nat) (b p : Int) (h0 : l.length ≠ 0) (hn : refN (byt l 0) = n) (hb : refP (byt l 0) = b) (hl : n ≤ l.length) (ha : accN b l (n - 1) = p) (he : enc p = l.take n) : refL l = (p, (n : Int)) := by
  unfold refL
  rw [if_neg h0, hn, if_neg (by omega), hb, ha, if_pos he]

theorem refL_enc (p : Int) (h : isPt p = true) (r : List UInt8) : refL (enc p ++ r) = (p, ((enc p).length : Int)) := by
  have h0 := isPt_lo h
  have h1 := isPt_hi h
  have hl : (enc p ++ r).length = (enc p).length + r.length := List.length_append
  have ht : (enc p ++ r).take (enc p).length = enc p := List.take_left
  by_cases c1 : p < 128
  · have e := encZ_1 h c1
    have b0 := byt_enc p r 0 p (by rw [e]; rfl)
    have hn : (enc p).length = 1 := by rw [enc_len, e]; rfl
    rw [hn] at ht ⊢
    exact refL_eq' _ 1 p p (by omega) (by rw [b0]; exact refN_1 (by omega)) (by rw [b0, refP_1 (by omega)]) (by omega) rfl ht.symm
  · by_cases c2 : p < 2048
    · have e := encZ_2 h (by omega) c2
      have b0 := byt_enc p r 0 _ (by rw [e]; rfl)
      have b1 := byt_enc p r 1 (128 + p % 64) (by rw [e]; rfl)
      have hn : (enc p).length = 2 := by rw [enc_len, e]; rfl
      rw [hn] at ht ⊢
      exact refL_eq' _ 2 (p / 64) p (by omega) (by rw [b0]; exact refN_2 (by omega) (by omega)) (by rw [b0, refP_2 (by omega) (by omega)]; omega) (by omega) (by simp [accN, b1]; omega) ht.symm
    · by_cases c3 : p < 65536
      · have e := encZ_3 h (by omega) c3
        have b0 := byt_enc p r 0 _ (by rw [e]; rfl)
        have b1 := byt_enc p r 1 (128 + p / 64 % 64) (by rw [e]; rfl)
        have b2 := byt_enc p r 2 (128 + p % 64) (by rw [e]; rfl)
        have hn : (enc p).length = 3 := by rw [enc_len, e]; rfl
        rw [hn] at ht ⊢
        exact refL_eq' _ 3 (p / 4096) p (by omega) (by rw [b0]; exact refN_3 (by omega) (by omega)) (by rw [b0, refP_3 (by omega) (by omega)]; omega) (by omega) (by simp [accN, b1, b2]; omega) ht.symm
      · have e := encZ_4 h (by omega)
        have b0 := byt_enc p r 0 _ (by rw [e]; rfl)
        have b1 := byt_enc p r 1 (128 + p / 4096 % 64) (by rw [e]; rfl)
        have b2 := byt_enc p r 2 (128 + p / 64 % 64) (by rw [e]; rfl)
        have b3 := byt_enc p r 3 (128 + p % 64) (by rw [e]; rfl)
        have hn : (enc p).length = 4 := by rw [enc_len, e]; rfl
        rw [hn] at ht ⊢
        exact refL_eq' _ 4 (p / 262144) p (by omega) (by rw [b0]; exact refN_4 (by omega)) (by rw [b0, refP_4 (by omega)]; omega) (by omega) (by simp [accN, b1, b2, b3]; omega) ht.symm

theorem refN_pos (b : Int) : 1 ≤ refN b := by unfold refN; split <;> (try split) <;> (try split) <;> omega

theorem refL_oneL (l : List UInt8) : refL l = oneL l := by
  rcases oneL_reads l with h | ⟨h1, h2, h3⟩
  · rw [h]
    unfold refL
    split
    · rfl
    · split
      · rfl
      · split
        · rename_i a b c
          exfalso
          have hp : isPt (accN (refP (byt l 0)) l (refN (byt l 0) - 1)) = true := by
            cases hq : isPt (accN (refP (byt l 0)) l (refN (byt l 0) - 1)) with
            | true => rfl
            | false =>
              rw [enc_no hq] at c
              have := congrArg List.length c
              have h9 := refN_pos (byt l 0)
              simp at this; omega
          have := oneL_enc _ hp (l.drop (refN (byt l 0)))
          rw [c, List.take_append_drop, h] at this
          have h9 := refN_pos (byt l 0)
          have := congrArg Prod.snd this
          simp at this; omega
        · rfl
  · have := refL_enc _ h1 (l.drop (enc (oneL l).1).length)
    rw [h3] at this
    rw [this, ← h2]
end Go.Proofs.YthokaeaefmajjaaDoor.Utf
