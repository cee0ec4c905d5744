/- Merged: TrS0. -/
import Derived.Test.YtbfogkcnfnjcaaaTt1
import Derived.Shelf.SlSortCmp.KitK
import Derived.Lib.Bytealg
import Derived.Sort.LotA
namespace Go.Proofs.Ytbfogkcnfnjcaaa.Tr
open Go.Proofs Go.RowKit Go.Sort Go.Shelf Go.Lib
open Go.Proofs.Ytbfogkcnfnjcaaa.Utf

structure M6 where
  nm : List UInt8
  k : Int
  n : Int
  s : ByteArray
  A : Option Addr
  l : Nat
  c : Nat
  A2 : Option Addr
  m : Nat
  c2 : Nat
instance : Inhabited M6 := ⟨⟨[], 0, 0, ⟨#[]⟩, none, 0, 0, none, 0, 0⟩⟩
def encM (x : M6) : List Value := [.string (strOf x.nm), .int .i64 x.k, .int .i64 x.n, .string x.s, .slice x.A x.l x.c, .slice x.A2 x.m x.c2]
theorem encM_len (x : M6) : (encM x).length = 6 := rfl
theorem encM_one (x : M6) : ∀ v ∈ encM x, v.oneCell' = true := by
  intro v h
  simp only [encM, List.mem_cons, List.not_mem_nil, or_false] at h
  rcases h with rfl | rfl | rfl | rfl | rfl | rfl <;> rfl
end Go.Proofs.Ytbfogkcnfnjcaaa.Tr
