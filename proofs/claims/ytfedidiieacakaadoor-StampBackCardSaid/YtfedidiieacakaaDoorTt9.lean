/- Merged: StAw. -/
import Derived.Test.YtfedidiieacakaaDoorTt6
import Derived.Test.YtfedidiieacakaaDoorTt3
import Derived.Test.YtfedidiieacakaaDoorTt7
namespace Go.Proofs.YtfedidiieacakaaDoor.St
open Go.RowKit
open Go.Proofs.YtfedidiieacakaaDoor.Utf
open Go.Proofs.YtfedidiieacakaaDoor.Nu

def awA : List UInt8 := [49, 57, 55, 48, 45, 48, 49, 45, 48, 50, 84, 48, 48, 58, 48, 48, 58, 48, 49, 90]
def awB : List UInt8 := [50, 48, 50, 51, 45, 48, 50, 45, 50, 57, 84, 48, 48, 58, 48, 48, 58, 48, 48, 90]
def awC : List UInt8 := [50, 48, 50, 52, 45, 48, 49, 45, 48, 49, 84, 48, 48, 58, 48, 48, 58, 48, 48, 46, 53, 48, 90]
def awD : List UInt8 := [50, 48, 48, 48, 45, 48, 50, 45, 50, 57, 84, 48, 48, 58, 48, 48, 58, 48, 48, 90]
def awE : List UInt8 := [50, 48, 50, 52, 45, 48, 49, 45, 48, 49, 84, 48, 48, 58, 48, 48, 58, 48, 48, 46, 53, 90]
def awF : List UInt8 := [50, 48, 50, 52, 45, 48, 49, 45, 48, 49, 84, 48, 48, 58, 48, 48, 58, 48, 48, 90]
theorem awA_ok : secOk awA := by decide +kernel
theorem awA_is : secN awA = 86401 := by rw [secN_yes awA_ok]; decide +kernel
theorem awB_no : ¬ secOk awB := by decide +kernel
theorem awC_no : ¬ secOk awC := by decide +kernel
theorem awD_is : MkOf 951782400 awD := .inl ⟨by decide, by decide, 2000, 2, 29, by decide +kernel, by decide +kernel, by decide +kernel⟩
theorem awEF : cmpS awE awF = 1 := by decide +kernel
theorem mk_is {n : Int} {l : List UInt8} {w : World} {e : Ending} {w' : World} (h : GivesM n w e w') (hl : MkOf n l) : e = .returned (.string (strOf l)) ∧ Below w.heap.size w w' := by
  obtain ⟨l', h1, h2, h3⟩ := h
  rw [MkOf_eq hl h1]
  exact ⟨h2, h3⟩

set_option maxRecDepth 100000 in
set_option maxHeartbeats 1000000 in
theorem awake_any11 (w : World) (T : Tab w) : Calls Tryd.prog 11 #[] w fun e w' => e = .returned (.bool true) ∧ Below w.heap.size w w' := by
  have CA := Lib.hid (fun wx (h : Tab wx) => Seconds_any (strOf awA) wx h (by rw [strOf_size]; decide))
  rw [strOf_data, awA_is, decide_eq_true awA_ok] at CA
  have CB := Lib.hid (fun wx (h : Tab wx) => stIs_any (strOf awB) wx h (by rw [strOf_size]; decide))
  rw [strOf_data, decide_eq_false awB_no] at CB
  have CC := Lib.hid (fun wx (h : Tab wx) => stIs_any (strOf awC) wx h (by rw [strOf_size]; decide))
  rw [strOf_data, decide_eq_false awC_no] at CC
  have CD := Lib.hid (fun wx (h : Tab wx) => (stMake_any 951782400 wx h (by decide) (by decide)).mono fun e w' hm => mk_is hm awD_is)
  obtain ⟨X, hX⟩ : ∃ X, strOf awD = X := ⟨_, rfl⟩
  have hq : (X.toList == [50, 48, 48, 48, 45, 48, 50, 45, 50, 57, 84, 48, 48, 58, 48, 48, 58, 48, 48, 90]) = true := by rw [seq_eq, ← hX]; exact decide_eq_true rfl
  rw [hX] at CD
  have CE := Lib.hid (fun wx (h : Tab wx) => stCompare_any (strOf awE) (strOf awF) wx h (by rw [strOf_size]; decide) (by rw [strOf_size]; decide))
  rw [strOf_data, strOf_data, awEF] at CE
  clear hX
  go_enter Tryd.func11, Tryd.ntmps11
  go_wp2_with fail
  refine (CA.out _ T).mono ?_
  rintro e x1 ⟨rfl, hb1⟩
  have HB1 := Lib.hid hb1
  clear hb1
  go_wp2_with fail
  refine (CB.out _ (T.below HB1.out)).mono ?_
  rintro e x2 ⟨rfl, hb2⟩
  have HB2 := Lib.hid (HB1.out.trans (hb2.mono HB1.out.size))
  clear hb2
  go_wp2_with fail
  refine (CC.out _ (T.below HB2.out)).mono ?_
  rintro e x3 ⟨rfl, hb3⟩
  have HB3 := Lib.hid (HB2.out.trans (hb3.mono HB2.out.size))
  clear hb3
  go_wp2_with fail
  refine (CD.out _ (T.below HB3.out)).mono ?_
  rintro e x4 ⟨rfl, hb4⟩
  have HB4 := Lib.hid (HB3.out.trans (hb4.mono HB3.out.size))
  clear hb4
  go_wp2_with fail
  refine (CE.out _ (T.below HB4.out)).mono ?_
  rintro e x5 ⟨rfl, hb5⟩
  have HB5 := Lib.hid (HB4.out.trans (hb5.mono HB4.out.size))
  clear hb5
  go_wp2_with fail
  go_ret
  exact ⟨rfl, HB5.out⟩
end Go.Proofs.YtfedidiieacakaaDoor.St
