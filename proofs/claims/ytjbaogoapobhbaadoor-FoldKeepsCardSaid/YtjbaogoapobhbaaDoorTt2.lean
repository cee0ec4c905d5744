/- Merged: UtfPl. -/
import Derived.Test.YtjbaogoapobhbaaDoorTt0
import Derived.Laws.BitsLemmas
import Derived.Laws.BitsAllLaws
import Derived.Lib.Strings
import Derived.Below
import Derived.Lib.UnsafeStr
namespace Go.Proofs.YtjbaogoapobhbaaDoor.Utf
open Go.RowKit

def isPt (n : Int) : Bool := decide (0 ≤ n ∧ n ≤ 1114111 ∧ (n < 55296 ∨ 57343 < n))

def accN (bits : Int) (l : List UInt8) : Nat → Int
  | 0 => bits
  | k + 1 => accN bits l k * 64 + byt l (k + 1) % 64
def contN (l : List UInt8) : Nat → Bool
  | 0 => true
  | k + 1 => contN l k && decide (byt l (k + 1) / 64 = 2)

def behS (l : List UInt8) (bits : Int) (n : Nat) (least : Int) : Int × Int :=
  if l.length < n then (0, 0) else if contN l (n - 1) = false then (0, 0)
  else if accN bits l (n - 1) < least ∨ isPt (accN bits l (n - 1)) = false then (0, 0) else (accN bits l (n - 1), n)

def oneL (l : List UInt8) : Int × Int :=
  if l.length = 0 then (0, 0)
  else if byt l 0 < 128 then (byt l 0, 1)
  else if byt l 0 < 192 then (0, 0)
  else if byt l 0 < 224 then behS l (byt l 0 % 32) 2 128
  else if byt l 0 < 240 then behS l (byt l 0 % 16) 3 2048
  else if byt l 0 < 248 then behS l (byt l 0 % 8) 4 65536
  else (0, 0)
def encZ (n : Int) : List Int :=
  if isPt n = false then []
  else if n < 128 then [n]
  else if n < 2048 then [192 + n / 64, 128 + n % 64]
  else if n < 65536 then [224 + n / 4096, 128 + n / 64 % 64, 128 + n % 64]
  else [240 + n / 262144, 128 + n / 4096 % 64, 128 + n / 64 % 64, 128 + n % 64]
def enc (n : Int) : List UInt8 := (encZ n).map fun x => UInt8.ofNat x.toNat

end Go.Proofs.YtjbaogoapobhbaaDoor.Utf
namespace Go.Proofs.YtjbaogoapobhbaaDoor.Utf
open Go.RowKit

end Go.Proofs.YtjbaogoapobhbaaDoor.Utf
namespace Go.Proofs.YtjbaogoapobhbaaDoor.Utf
open Go.RowKit

def ptsF : Nat → List UInt8 → List Int × Nat
  | 0, _ => ([], 0)
  | f + 1, l => if (oneL l).2 = 0 then ([], 0) else ((oneL l).1 :: (ptsF f (l.drop (oneL l).2.toNat)).1, (oneL l).2.toNat + (ptsF f (l.drop (oneL l).2.toNat)).2)
def ptsL (l : List UInt8) : List Int × Nat := ptsF l.length l

end Go.Proofs.YtjbaogoapobhbaaDoor.Utf
