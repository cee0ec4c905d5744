/- Merged: TrS0. -/
import Derived.Test.YtmfpaoincgfjmaaGreatTt0
import Derived.Shelf.SlSortCmp.KitK
import Derived.Lib.Bytealg
import Derived.Sort.LotA
namespace Go.Proofs.YtmfpaoincgfjmaaGreat.Tr
open Go.Proofs Go.RowKit Go.Sort Go.Shelf Go.Lib
open Go.Proofs.YtmfpaoincgfjmaaGreat.Utf

structure M6 where
  nm : List UInt8
  k : Int
  n : Int
  s : ByteArray
  A : Option Addr
  l : Nat
  c : Nat
  A2 : Option Addr
  m : Nat
  c2 : Nat
instance : Inhabited M6 := ⟨⟨[], 0, 0, ⟨#[]⟩, none, 0, 0, none, 0, 0⟩⟩
def encM (x : M6) : List Value := [.string (strOf x.nm), .int .i64 x.k, .int .i64 x.n, .string x.s, .slice x.A x.l x.c, .slice x.A2 x.m x.c2]
end Go.Proofs.YtmfpaoincgfjmaaGreat.Tr
