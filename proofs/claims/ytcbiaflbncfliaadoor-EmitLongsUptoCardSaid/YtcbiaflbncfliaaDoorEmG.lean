import Derived.Test.YtcbiaflbncfliaaDoorEmF
import Derived.Test.YtcbiaflbncfliaaDoorEmO
/- Contracts of law 06's example and awake. -/
namespace Go.Proofs.YtcbiaflbncfliaaDoor.Em
open Go.RowKit
open Go.Proofs.YtcbiaflbncfliaaDoor.Utf
open Go.Proofs.YtcbiaflbncfliaaDoor.Sc
open Go.Proofs.YtcbiaflbncfliaaDoor.Re

/-- the document's example -/
def exV : V := lsV [nmV (-1), mpV ([[97]], [.mk 2 1 [] [] [] []])]
theorem ex_chk : chk exV = 0 := by decide +kernel
theorem ex_txt : emV exV = [91, 45, 49, 44, 123, 34, 97, 34, 58, 116, 114, 117, 101, 125, 93] := by decide +kernel
theorem ex_len : lenV exV := by simp [exV, lsV, nmV, mpV, lenV, lenL]
theorem ex_sz : szU exV ≤ 1099511627776 := by simp [exV, lsV, nmV, mpV, szU, szUL]
theorem ex_wf : wfV exV := wf_all _ (chk_ok ex_chk).2.2
def twoV : V := .mk 2 2 [] [] [] []
theorem two_chk : chk twoV = 1 := by decide +kernel
theorem two_read (w : World) (lo hi : Nat) : RdA w lo hi twoV [.int .i64 2, .int .i64 2, .string ⟨#[]⟩, .slice none 0 0, .slice none 0 0] := by
  unfold twoV
  rw [RdA]
  exact ⟨none, 0, none, 0, rfl, rfl, fun h => absurd h (by simp), fun h => absurd h (by simp)⟩
theorem two_sz : szA 4611686018427387904 twoV := by
  unfold twoV
  rw [szA, szAL]
  exact ⟨by decide, by decide, by simp, by simp, by simp, fun nm h => by simp at h, trivial, trivial⟩
/-- what example hands back -/
def GivesEx (w : World) (e : Ending) (w' : World) : Prop := ∃ A1 c1 A2 c2, e = .returned (.agg #[.int .i64 5, .int .i64 0, .string ⟨#[]⟩, .slice A1 2 c1, .slice A2 0 c2]) ∧
  RdA w' 0 w'.heap.size exV [.int .i64 5, .int .i64 0, .string ⟨#[]⟩, .slice A1 2 c1, .slice A2 0 c2] ∧ Below w.heap.size w w'

theorem leafA (w : World) (lo hi : Nat) (k n : Int) : RdA w lo hi (.mk k n [] [] [] []) [.int .i64 k, .int .i64 n, .string ⟨#[]⟩, .slice none 0 0, .slice none 0 0] := by
  rw [RdA]
  exact ⟨none, 0, none, 0, rfl, rfl, fun h => absurd h (by simp), fun h => absurd h (by simp)⟩
theorem ex_read (W : World) (T1 T2 : TypeId) (a : Nat) (h2 : W.heap[a + 1]? = some (.cells #[.string ⟨#[97]⟩, .int .i64 2, .int .i64 1, .string ⟨#[]⟩, .slice none 0 0, .slice none 0 0] T1 (0, 0)))
    (h3 : W.heap[a + 1 + 1]? = some (.cells #[.int .i64 3, .int .i64 (-1), .string ⟨#[]⟩, .slice none 0 0, .slice none 0 0, .int .i64 6, .int .i64 0, .string ⟨#[]⟩, .slice none 0 0, .slice (some ⟨a + 1, 0, none⟩) 1 1] T2 (0, 0))) (hs : a + 1 + 1 < W.heap.size) :
    RdA W 0 W.heap.size exV [.int .i64 5, .int .i64 0, .string ⟨#[]⟩, .slice (some ⟨a + 1 + 1, 0, none⟩) 2 2, .slice none 0 0] := by
  unfold exV lsV
  rw [RdA]
  refine ⟨some ⟨a + 1 + 1, 0, none⟩, 2, none, 0, rfl, rfl, fun _ => ⟨a + 1 + 1, 0, rfl, by omega, hs, ?_⟩, fun h => absurd h (by simp)⟩
  rw [RdAL, RdAL, RdAL]
  refine ⟨⟨[.int .i64 3, .int .i64 (-1), .string ⟨#[]⟩, .slice none 0 0, .slice none 0 0], fun j u hu => ?_, leafA _ _ _ 3 (-1)⟩, ⟨[.int .i64 6, .int .i64 0, .string ⟨#[]⟩, .slice none 0 0, .slice (some ⟨a + 1, 0, none⟩) 1 1], fun j u hu => ?_, ?_⟩, trivial⟩
  · rw [cell_of_row _ _ (0 + j) _ _ _ h3]
    match j, hu with
    | 0, hu => exact hu
    | 1, hu => exact hu
    | 2, hu => exact hu
    | 3, hu => exact hu
    | 4, hu => exact hu
    | j + 5, hu => simp at hu
  · rw [cell_of_row _ _ (0 + 5 + j) _ _ _ h3]
    match j, hu with
    | 0, hu => exact hu
    | 1, hu => exact hu
    | 2, hu => exact hu
    | 3, hu => exact hu
    | 4, hu => exact hu
    | j + 5, hu => simp at hu
  · unfold mpV
    rw [RdA]
    refine ⟨none, 0, some ⟨a + 1, 0, none⟩, 1, rfl, rfl, fun h => absurd h (by simp), fun _ => ⟨a + 1, 0, rfl, by omega, by omega, ?_⟩⟩
    rw [RdAM]
    refine ⟨[97], [], rfl, (cell_of_row _ _ 0 _ _ _ h2).trans rfl, ⟨_, fun j u hu => ?_, leafA _ _ _ 2 1⟩, by rw [RdAM]; trivial⟩
    rw [cell_of_row _ _ (0 + 1 + j) _ _ _ h2]
    match j, hu with
    | 0, hu => exact hu
    | 1, hu => exact hu
    | 2, hu => exact hu
    | 3, hu => exact hu
    | 4, hu => exact hu
    | j + 5, hu => simp at hu

set_option maxRecDepth 100000 in
set_option maxHeartbeats 4000000 in
theorem example_any (w : World) : Calls Tryd.prog 12 #[] w (GivesEx w) := by
  go_enter Tryd.func12, Tryd.ntmps12
  go_wp2_with fail
  obtain ⟨o1, ho1⟩ : ∃ o, o = Obj.cells #[.int .i64 5, .int .i64 0, .string ⟨#[]⟩, .slice (some ⟨w.heap.size + 1 + 1, 0, none⟩) 2 2, .slice none 0 0] 25 := ⟨_, rfl⟩
  obtain ⟨o2, ho2⟩ : ∃ o, o = Obj.cells #[.string ⟨#[97]⟩, .int .i64 2, .int .i64 1, .string ⟨#[]⟩, .slice none 0 0, .slice none 0 0] 39 := ⟨_, rfl⟩
  obtain ⟨o3, ho3⟩ : ∃ o, o = Obj.cells #[.int .i64 3, .int .i64 (-1), .string ⟨#[]⟩, .slice none 0 0, .slice none 0 0, .int .i64 6, .int .i64 0, .string ⟨#[]⟩, .slice none 0 0, .slice (some ⟨w.heap.size + 1, 0, none⟩) 1 1] 25 := ⟨_, rfl⟩
  have s1 := szAlloc' w o1
  have s2 := szAlloc' (w.alloc o1) o2
  have s3 := szAlloc' ((w.alloc o1).alloc o2) o3
  have h3 := heap_alloc_new ((w.alloc o1).alloc o2) o3
  have h2 := (heap_alloc_old _ o3 (by omega)).trans (heap_alloc_new (w.alloc o1) o2)
  have h1 := (heap_alloc_old _ o3 (by omega)).trans ((heap_alloc_old _ o2 (by omega)).trans (heap_alloc_new w o1))
  rw [s2, s1] at h3
  rw [s1] at h2
  have hb : Below w.heap.size w (((w.alloc o1).alloc o2).alloc o3) := (((Below.refl _ _).alloc (Nat.le_refl _) _).alloc (by omega) _).alloc (by omega) _
  have hs : w.heap.size + 1 + 1 < (((w.alloc o1).alloc o2).alloc o3).heap.size := by omega
  rw [← ho1, ← ho2, ← ho3]
  clear s1 s2 s3
  generalize ((w.alloc o1).alloc o2).alloc o3 = W at *
  rw [ho1] at h1
  rw [ho2] at h2
  rw [ho3] at h3
  refine bodyPost_ret (results5 rfl rfl h1) rfl ?_
  exact ⟨some ⟨w.heap.size + 1 + 1, 0, none⟩, 2, none, 0, rfl, ex_read W _ _ w.heap.size h2 h3 hs, hb⟩

theorem ex_szA : szA 4611686018427387904 exV := szA_of _ _ ex_wf (by simp [exV, lsV, nmV, mpV, szU, szUL])
theorem ex_txtR : txtR exV = [91, 45, 49, 44, 123, 34, 97, 34, 58, 116, 114, 117, 101, 125, 93] := by unfold txtR; rw [if_pos ex_chk, ex_txt]
theorem ex_Text (w : World) (A1 A2 : Option Addr) (c1 c2 : Nat) (h : RdA w 0 w.heap.size exV [.int .i64 5, .int .i64 0, .string ⟨#[]⟩, .slice A1 2 c1, .slice A2 0 c2]) :
    Calls Tryd.prog 7 #[.agg #[.int .i64 5, .int .i64 0, .string ⟨#[]⟩, .slice A1 2 c1, .slice A2 0 c2]] w fun e w' => e = .returned (.tuple #[.string (strOf [91, 45, 49, 44, 123, 34, 97, 34, 58, 116, 114, 117, 101, 125, 93]), .int .i64 0]) ∧ Below w.heap.size w w' := by
  refine (Text_any exV _ 0 w ex_len ex_sz ex_szA h).mono fun e w' hg => ?_
  unfold GivesT at hg
  rw [ex_txtR, ex_chk] at hg
  exact hg
theorem ex_Check (w : World) (A1 A2 : Option Addr) (c1 c2 : Nat) (h : RdA w 0 w.heap.size exV [.int .i64 5, .int .i64 0, .string ⟨#[]⟩, .slice A1 2 c1, .slice A2 0 c2]) :
    Calls Tryd.prog 10 #[.agg #[.int .i64 5, .int .i64 0, .string ⟨#[]⟩, .slice A1 2 c1, .slice A2 0 c2]] w (Gives (.int .i64 0) w) := by
  have := Check_any exV _ 0 w ex_szA h
  rw [ex_chk] at this
  exact this
theorem two_Check (w : World) : Calls Tryd.prog 10 #[.agg #[.int .i64 2, .int .i64 2, .string ⟨#[]⟩, .slice none 0 0, .slice none 0 0]] w (Gives (.int .i64 1) w) := by
  have := Check_any twoV _ 0 w two_sz (two_read w 0 w.heap.size)
  rw [two_chk] at this
  exact this

set_option maxRecDepth 100000 in
set_option maxHeartbeats 4000000 in
theorem awake_any6 (w : World) : Calls Tryd.prog 6 #[] w (Gives (.bool true) w) := by
  have e0 := strOf_list [91, 45, 49, 44, 123, 34, 97, 34, 58, 116, 114, 117, 101, 125, 93]
  have hT := ex_Text
  generalize strOf [91, 45, 49, 44, 123, 34, 97, 34, 58, 116, 114, 117, 101, 125, 93] = S at *
  have t1 : (S.toList == [91, 45, 49, 44, 123, 34, 97, 34, 58, 116, 114, 117, 101, 125, 93]) = true := by rw [e0]; decide
  have HT := Lib.hid hT; clear hT
  have HE := Lib.hid e0; clear e0
  go_enter Tryd.func6, Tryd.ntmps6
  go_wp2_with fail
  refine (example_any _).mono ?_
  rintro e w1 ⟨A1, c1, A2, c2, rfl, hv, hb⟩
  have HV := Lib.hid hv; clear hv
  have HB := Lib.hid hb; clear hb
  go_wp2_with fail
  refine (HT.out _ _ _ _ _ HV.out).mono ?_
  rintro e w2 ⟨rfl, hb2⟩
  have HB2 := Lib.hid (HB.out.trans (hb2.mono HB.out.size)); clear hb2
  go_wp2_with fail
  refine (two_Check _).mono ?_
  rintro e w3 ⟨rfl, hb3⟩
  have HB3 := Lib.hid (HB2.out.trans (hb3.mono HB2.out.size)); clear hb3
  go_wp2_with fail
  refine (example_any _).mono ?_
  rintro e w4 ⟨A3, c3, A4, c4, rfl, hv4, hb4⟩
  have HV4 := Lib.hid hv4; clear hv4
  have HB4 := Lib.hid (HB3.out.trans (hb4.mono HB3.out.size)); clear hb4
  go_wp2_with fail
  refine (ex_Check _ _ _ _ _ HV4.out).mono ?_
  rintro e w5 ⟨rfl, hb5⟩
  have HB5 := Lib.hid (HB4.out.trans (hb5.mono HB4.out.size)); clear hb5
  go_wp2_with fail
  go_ret
  exact ⟨rfl, HB5.out⟩
end Go.Proofs.YtcbiaflbncfliaaDoor.Em
