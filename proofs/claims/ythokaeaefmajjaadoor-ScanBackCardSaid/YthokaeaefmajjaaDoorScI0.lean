import Derived.Test.YthokaeaefmajjaaDoorScH
import Derived.Test.YthokaeaefmajjaaDoorNuF
import Derived.Test.YthokaeaefmajjaaDoorChR3
/- For layer 4's document's answer: words on memory; what a step is, by its byte. -/
namespace Go.Proofs.YthokaeaefmajjaaDoor.Sc
open Go.RowKit
open Go.Proofs.YthokaeaefmajjaaDoor.Utf

/-- what is owned stays so while a cell of another block is written -/
theorem own_far {w : World} {base e size n : Nat} {v : Value} {xs : List Value} (h : w.ownsRow base e size v n xs) (p : Addr) (hne : v.ownBlock ≠ some p.block) (u : Value) : (w.setCell p u).ownsRow base e size v n xs := by
  refine h.kept (row := some p.block) ⟨rfl, rfl, rfl, by simp, fun k _ hk => heap_setCell_other w p k u (fun e => hk (by rw [e]))⟩ (.inr hne)
theorem own_not {w : World} {base e size n : Nat} {v : Value} {xs : List Value} (h : w.ownsRow base e size v n xs) {b : Nat} (hb : w.heap.size ≤ b) : v.ownBlock ≠ some b := fun e => by
  have := h.lt b e
  omega
theorem cells_new' (w : World) (E : TypeId) (cs : Array Value) (n : Nat) (hn : w.heap.size = n) : ∀ j u, cs.toList[j]? = some u → (w.alloc (.cells cs E)).cell? ((⟨n, 0, none⟩ : Addr).add j) = some u := by
  subst hn
  exact cells_new w E cs
theorem stp_W {l : List UInt8} {k : Nat} (h : isW (byt l k) = true) : stp l k = (none, ((k + 1 : Nat) : Int), 0) := by rw [stp, if_pos h]
theorem stp_M {l : List UInt8} {k : Nat} (h : isMk (byt l k) = true) : stp l k = (some (1, 0, [l.getD k 0], (k : Int)), ((k + 1 : Nat) : Int), 0) := by
  have h2 := (isMk_iff _).1 h
  rw [stp, if_neg (by rw [isW_iff]; omega), if_pos h]
theorem stp_T {l : List UInt8} {k : Nat} (h : byt l k = 34) : stp l k = txT l k := by
  rw [stp, h, if_neg (by decide), if_neg (by decide), if_pos rfl]
theorem stp_N {l : List UInt8} {k : Nat} (h : isNm (byt l k) = true) : stp l k = nmT l k := by
  have h2 := (isNm_iff _).1 h
  rw [stp, if_neg (by rw [isW_iff]; omega), if_neg (by rw [isMk_iff]; omega), if_neg (by omega), if_pos h]
theorem stp_wd {l : List UInt8} {k i : Nat} (hi : i < 3) (h : byt l k = byt (wrds i) 0) : stp l k = wrd l k (wrds i) := by
  rw [wrds_hd] at h
  unfold stp wrds
  rw [h]
  rcases (show i = 0 ∨ i = 1 ∨ i = 2 by omega) with rfl | rfl | rfl
  · rfl
  · rfl
  · rfl
theorem stp_E {l : List UInt8} {k : Nat} (h1 : isW (byt l k) = false) (h2 : isMk (byt l k) = false) (h3 : byt l k ≠ 34) (h4 : isNm (byt l k) = false) (h5 : byt l k ≠ 116) (h6 : byt l k ≠ 102) (h7 : byt l k ≠ 110) : stp l k = (none, (k : Int), 40) := by
  rw [stp, if_neg (by rw [h1]; simp), if_neg (by rw [h2]; simp), if_neg h3, if_neg (by rw [h4]; simp), if_neg h5, if_neg h6, if_neg h7]
theorem ext_of {s : ByteArray} {k n : Nat} {w : List UInt8} (h : (s.data.toList.drop k).take n = w) : s.extract k (k + n) = strOf w := by
  have : (s.extract k (k + n)).data.toList = w := by
    rw [← h, ByteArray.data_extract, Array.toList_extract]
    show List.extract _ _ _ = _
    rw [List.extract_eq_take_drop, Nat.add_sub_cancel_left]
  unfold strOf
  rw [← this]
theorem mark_of {s : ByteArray} {k : Nat} (hk : k < s.size) : s.extract k (k + 1) = strOf [s.data.toList.getD k 0] := by
  refine ext_of ?_
  have hk' : k < s.data.toList.length := hk
  rw [List.drop_eq_getElem_cons hk', List.take_succ_cons, List.take_zero, List.getD_eq_getElem?_getD, List.getElem?_eq_getElem hk']
  rfl
end Go.Proofs.YthokaeaefmajjaaDoor.Sc
