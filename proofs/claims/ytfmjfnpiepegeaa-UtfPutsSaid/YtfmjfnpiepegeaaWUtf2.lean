import Derived.Test.YtfmjfnpiepegeaaUtfC
import Derived.OpenShut
/- The walk of the law UtfPuts. -/
namespace Go.Proofs.Ytfmjfnpiepegeaa.Utf
open Go.RowKit

set_option maxHeartbeats 1000000 in
theorem puts_walk (n : Int) (w : World) (hn : (Lit.int .i32 n).wf = true) :
    Calls Try.prog 4 #[.int .i32 n] w fun e w' => e = .returned (.bool true) ∧ Below w.heap.size w w' := by
  obtain ⟨n0, n1⟩ : -2147483648 ≤ n ∧ n ≤ 2147483647 := bounds_i32 hn
  have hl := strOf_list (enc n)
  have hsz : (strOf (enc n)).size ≤ maxLen := by rw [strOf_size]; have := enc_le n; unfold maxLen; omega
  have HS := Lib.hid hsz; clear hsz
  by_cases hp : isPt n = true
  · have hpos := enc_pos hp
    have ho : oneS (strOf (enc n)).data.toList 0 = (n, ((strOf (enc n)).size : Int)) := by
      rw [strOf_data, strOf_size, oneS, if_neg (by omega)]
      have := oneL_enc n hp []
      rw [List.append_nil] at this
      simpa using this
    have c1 := one_any (strOf (enc n)) 0
    rw [ho] at c1
    have C1 := Lib.hid c1; clear c1
    have hne : (enc n).isEmpty = false := by
      cases he : enc n with
      | nil => rw [he] at hpos; simp at hpos
      | cons a r => rfl
    have hne2 : (enc n == []) = false := by
      cases he : enc n with
      | nil => rw [he] at hpos; simp at hpos
      | cons a r => rfl
    clear ho
    go_enter Try.func4, Try.ntmps4
    go_wp2_with fail
    refine (Put_any n w).mono ?_
    rintro e w1 ⟨rfl, hb1⟩
    go_wp2_with fail
    refine (C1.out w1 HS.out).mono ?_
    rintro e w' ⟨rfl, rfl⟩
    go_wp2_with fail
    refine (Bytes_any n w1).mono ?_
    rintro e w2 ⟨v2, rfl, hown2, hb2⟩
    have hc := (Rd.of_own hown2).conv (P := Try.prog) Try.underlying29 Try.underlying5 Try.underlying9
    have hs2 : strOf (enc n) = ⟨(enc n).toArray⟩ := rfl
    rw [← hs2] at hc
    go_wp2_with fail
    refine (awake_any w2).mono ?_
    rintro e w3 ⟨rfl, hb3⟩
    go_wp2_with fail
    go_ret
    exact ⟨rfl, hb1.trans ((hb2.mono hb1.size).trans (hb3.mono (Nat.le_trans hb1.size hb2.size)))⟩
  · have hp' : isPt n = false := by simpa using hp
    clear hp
    have he : enc n = [] := enc_no hp'
    have ho : oneS (strOf (enc n)).data.toList 0 = (0, 0) := by rw [strOf_data, he]; rfl
    have c1 := one_any (strOf (enc n)) 0
    rw [ho] at c1
    have C1 := Lib.hid c1; clear c1 ho
    have HE := Lib.hid he; clear he
    go_enter Try.func4, Try.ntmps4
    go_wp2_with fail
    refine (Put_any n w).mono ?_
    rintro e w1 ⟨rfl, hb1⟩
    go_wp2_with fail
    refine (C1.out w1 HS.out).mono ?_
    rintro e w' ⟨rfl, rfl⟩
    go_wp2_with fail
    refine (Bytes_any n w1).mono ?_
    rintro e w2 ⟨v2, rfl, hown2, hb2⟩
    have hc := (Rd.of_own hown2).conv (P := Try.prog) Try.underlying29 Try.underlying5 Try.underlying9
    have hs2 : strOf (enc n) = ⟨(enc n).toArray⟩ := rfl
    rw [← hs2] at hc
    go_wp2_with fail
    refine (awake_any w2).mono ?_
    rintro e w3 ⟨rfl, hb3⟩
    have he2 : (enc n).isEmpty = true := by rw [HE.out]; rfl
    have he3 := HE.out
    go_wp2_with fail
    go_ret
    exact ⟨rfl, hb1.trans ((hb2.mono hb1.size).trans (hb3.mono (Nat.le_trans hb1.size hb2.size)))⟩
end Go.Proofs.Ytfmjfnpiepegeaa.Utf
