/- Merged: TrS0. -/
import Derived.Test.YtfdibmcjjclgkaaTt0
import Derived.Shelf.SlSortCmp.KitK
import Derived.Lib.Bytealg
import Derived.Sort.LotA
namespace Go.Proofs.Ytfdibmcjjclgkaa.Tr
open Go.Proofs Go.RowKit Go.Sort Go.Shelf Go.Lib
open Go.Proofs.Ytfdibmcjjclgkaa.Utf

structure M6 where
  nm : List UInt8
  k : Int
  n : Int
  s : ByteArray
  A : Option Addr
  l : Nat
  c : Nat
  A2 : Option Addr
  m : Nat
  c2 : Nat
instance : Inhabited M6 := ⟨⟨[], 0, 0, ⟨#[]⟩, none, 0, 0, none, 0, 0⟩⟩
end Go.Proofs.Ytfdibmcjjclgkaa.Tr
