import Derived.Test.YthokaeaefmajjaaDoorChPl2
import Derived.Test.YthokaeaefmajjaaDoorUtfC
import Derived.Lib.AppendStr
/- What a loop over a quote ends with, told of numbers; bounds. No run of the program in this text. -/
namespace Go.Proofs.YthokaeaefmajjaaDoor.Ch
open Go.RowKit
open Go.Proofs.YthokaeaefmajjaaDoor.Utf

theorem RdAt.err {l : List UInt8} {k : Nat} {ps : List Int} {e : Int} (h : RdAt l k ps) (hs : stepL (l.drop k) = (0, 0, e)) : readL l = (ps, k, e) := by
  have := h.stop (by rw [hs])
  rw [this, hs]
theorem RdAt.le {l : List UInt8} {k : Nat} {ps : List Int} (h : RdAt l k ps) : k ≤ (readL l).2.1 := by
  rw [h.2.2]; simp only; omega
theorem readS_bad {l : List UInt8} {q k : Nat} {ps : List Int} {e : Int} (h : q < l.length) (hb : byt l q = 34) (hr : readL (l.drop (q + 1)) = (ps, k, e)) (he : e ≠ 0) : readS l q = ([], (q : Int) + 1 + k, e) := by
  rw [readS_in h hb, hr, if_neg he]
theorem readS_ok {l : List UInt8} {q k : Nat} {ps : List Int} (h : q < l.length) (hb : byt l q = 34) (hr : readL (l.drop (q + 1)) = (ps, k, 0)) : readS l q = (encL ps, (q : Int) + 1 + k + 1, 0) := by
  rw [readS_in h hb, hr, if_pos rfl]
theorem uniL_pos {l : List UInt8} (h0 : l.length ≠ 0) (hq : byt l 0 ≠ 34) (he : (uniL l).2.2 = 0) : 1 ≤ (uniL l).2.1 := by
  by_cases hu : isUp (uniL l).1 = true
  · rw [(uniL_half h0 (.inl hu)).2.2]; simp
  · by_cases hl : isLo (uniL l).1 = true
    · rw [(uniL_half h0 (.inr hl)).2.2]; simp
    · have e := uniL_both h0 hq he (by simpa using hu) (by simpa using hl)
      have hn := stepL_n l
      have h2 := he
      rw [← e] at he ⊢
      rcases hn with h | h
      · exfalso
        have h3 := stepL_e l h.1
        rw [he] at h3
        rcases h3 with h3 | h3 | h3
        · simp at h3
        · simp at h3
        · exact hq h3.2.2
      · exact h.2.1
/-- the bytes of a point that is read are those that stand there -/
theorem one_take {l : List UInt8} {p : Int} {m : Nat} (h : oneL l = (p, (m : Int))) (hm : m ≠ 0) : l.take m = enc p := by
  rcases oneL_reads l with h1 | ⟨_, h2, h3⟩
  · rw [h] at h1
    have := congrArg Prod.snd h1
    simp at this
    omega
  · rw [h] at h2 h3
    simp only at h2 h3
    have e : m = (enc p).length := by omega
    conv => lhs; rw [← h3]
    rw [e, List.take_left']
    rfl
/-- .. where it isn't escaped -/
theorem uniL_one {l : List UInt8} {p : Int} {m : Nat} (h0 : l.length ≠ 0) (h2 : byt l 0 ≠ 92) (h : uniL l = (p, (m : Int), 0)) : oneL l = (p, (m : Int)) := by
  by_cases h1 : byt l 0 < 32
  · rw [uniL_ctl h0 h1] at h
    have := congrArg (fun x => x.2.2) h
    simp at this
  · by_cases h3 : (oneL l).2 = 0
    · rw [uniL_bad h3] at h
      have := congrArg (fun x => x.2.2) h
      simp at this
    · rw [uniL_pt h0 h3 h1 h2] at h
      have a := congrArg Prod.fst h
      have b := congrArg (fun x => x.2.1) h
      simp only at a b
      rw [Prod.ext_iff]
      exact ⟨a, b⟩
/-- a first half, and what comes behind it -/
theorem up_len {l : List UInt8} {u : Int} (h : uniL l = (u, 6, 0)) : l.length ≠ 0 := by
  have := uniL_bd l
  rw [h] at this
  simp only at this
  omega
theorem up_stop {l : List UInt8} {j : Nat} {u : Int} (hup : isUp u = true) (h : uniL (l.drop j) = (u, 6, 0)) (hn : isLo (unitL (l.drop (j + 6))) = false) : stepL (l.drop j) = (0, 0, 20) := by
  rw [stepL_up (up_len h) (by rw [h]; exact hup), List.drop_drop, if_neg (by rw [hn]; simp)]
theorem up_go {l : List UInt8} {j : Nat} {u : Int} (hup : isUp u = true) (h : uniL (l.drop j) = (u, 6, 0)) (hn : isLo (unitL (l.drop (j + 6))) = true) : stepL (l.drop j) = (bothV u (unitL (l.drop (j + 6))), 12, 0) := by
  rw [stepL_up (up_len h) (by rw [h]; exact hup), List.drop_drop, if_pos hn, h]
/-- what is no second half -/
theorem second_no {l : List UInt8} {p n e : Int} (h0 : l.length ≠ 0) (h : uniL l = (p, n, e)) (hn : e ≠ 0 ∨ isLo p = false) : isLo (unitL l) = false := by
  cases hc : isLo (unitL l) with
  | false => rfl
  | true =>
    have := (unitL_second h0 hc).2
    rw [h] at this
    have a := congrArg Prod.fst this
    have b := congrArg (fun x => x.2.2) this
    simp only at a b
    rcases hn with hn | hn
    · exact absurd b hn
    · rw [a, hc] at hn; simp at hn
theorem second_yes {l : List UInt8} {p n : Int} (h0 : l.length ≠ 0) (h : uniL l = (p, n, 0)) (hn : isLo p = true) : unitL l = p ∧ n = 6 := by
  have := (uniL_half h0 (by rw [h]; exact .inr hn)).2.2
  rw [h] at this
  exact ⟨(congrArg Prod.fst this).symm, congrArg (fun x => x.2.1) this⟩
theorem first_yes {l : List UInt8} {p n : Int} (h0 : l.length ≠ 0) (h : uniL l = (p, n, 0)) (hn : isUp p = true) : n = 6 := by
  have := (uniL_half h0 (by rw [h]; exact .inl hn)).2.2
  rw [h] at this
  exact congrArg (fun x => x.2.1) this
theorem strCells_of (l : List UInt8) : Lib.strCells (strOf l) = Lib.byteCells l := rfl
theorem strCells_extract (s : ByteArray) (a m : Nat) (p : Int) (h : oneL (s.data.toList.drop a) = (p, (m : Int))) (hm : m ≠ 0) : Lib.strCells (s.extract a (a + m)) = Lib.byteCells (enc p) := by
  have e := one_take h hm
  unfold Lib.strCells Lib.byteCells
  rw [← e]
  congr 1
  simp [ByteArray.data_extract]
end Go.Proofs.YthokaeaefmajjaaDoor.Ch
