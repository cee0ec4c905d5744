/- Merged: SmH. -/
import Derived.Test.YthfladbanghkiaaTt6
import Derived.Test.YthfladbanghkiaaTt3
import Derived.Shelf.SlSortCmp.WholeK
namespace Go.Proofs.Ythfladbanghkiaa.Sm
open Go.Proofs Go.RowKit Go.Sort Go.Shelf Go.Lib
open Go.Proofs.Ythfladbanghkiaa.Utf
open Go.Proofs.Ythfladbanghkiaa.Nu
open Go.Proofs.Ythfladbanghkiaa.Wo

instance : Inhabited Pr := ⟨Pr.zero⟩
def cfP (x y : Pr) : Int := Lib.compareBytes x.nm y.nm
theorem prC_five (x : Pr) : (prC x).length = 5 := rfl
theorem prC_cell (x : Pr) : ∀ v ∈ prC x, v.oneCell' = true := one5 _ _ _ _ _
theorem ltP_eq (x y : Pr) : ltOf cfP x y = Tr.ltN x.nm y.nm := rfl
theorem ltP_swo : SWO (ltOf cfP) where
  irrefl x := Tr.ltN_swo.irrefl x.nm
  trans _ _ _ h1 h2 := Tr.ltN_swo.trans _ _ _ h1 h2
  ntrans _ _ _ h1 h2 := Tr.ltN_swo.ntrans _ _ _ h1 h2
theorem mixedOrd : Try.prog.follows .mixedOrders = true := by kernel_rfl
set_option maxRecDepth 100000 in
set_option maxHeartbeats 1000000 in
theorem byName_any (x y : Pr) (W : World) : Calls Try.prog 18 #[.agg (prC x).toArray, .agg (prC y).toArray] W fun e w' => e = .returned (.int .i64 (cfP x y)) ∧ ∃ q os', w' = grow (W.drewN q) os' := by
  have hcon := fun W' => Tr.compare_any (strOf x.nm) (strOf y.nm) W'
  obtain ⟨xm, x1, x2, x3, x4⟩ := x
  obtain ⟨ym, y1, y2, y3, y4⟩ := y
  simp only [prC, cfP] at *
  rw [strOf_data, strOf_data] at hcon
  generalize Lib.compareBytes xm ym = r at *
  generalize strOf xm = X at *
  generalize strOf ym = Y at *
  go_enter Try.func18, Try.ntmps18
  go_wp2_with (go_at_call 19; refine (hcon _).mono ?_; rintro e w' ⟨rfl, rfl⟩)
  go_ret
  exact ⟨rfl, 0, _, by rw [alloc_eq_grow, alloc_eq_grow, grow_grow]; rfl⟩
theorem byName_lays (blk off size : Nat) (w : World) : CmpLays Try.prog 18 #[] prC 5 cfP blk off size w :=
  fun _ _ _ _ x y => byName_any x y _
def srtRen : Ren where
  f := fun k => if k = 6 then 17 else if k = 14 then 35 else if k = 15 then 36 else if k = 20 then 40 else if k = 21 then 41 else if k = 22 then 42 else if k = 23 then 43 else if k = 24 then 44 else if k = 25 then 45 else if k = 26 then 46 else if k = 27 then 47 else if k = 28 then 48 else if k = 29 then 49 else if k = 46 then 52 else if k = 47 then 53 else if k = 48 then 54 else if k = 49 then 55 else if k = 50 then 56 else 61
  t := fun k => if k = 0 then 0 else if k = 3 then 3 else if k = 4 then 4 else if k = 5 then 5 else if k = 9 then 9 else if k = 22 then 25 else if k = 24 then 31 else if k = 25 then 42 else if k = 39 then 54 else if k = 45 then 58 else if k = 46 then 59 else if k = 50 then 63 else if k = 53 then 66 else if k = 55 then 68 else if k = 66 then 69 else if k = 70 then 73 else if k = 76 then 77 else 78
  g := fun k => k
set_option maxRecDepth 100000 in
theorem srtLays : SlLaysF0.n6 Try.prog srtRen where
  mixed := mixedOrd
  f6 := ⟨Try.f17.name, by kernel_rfl, Try.func17.trans (congrArg some (by kernel_rfl))⟩
  f14 := ⟨Try.f35.name, by kernel_rfl, Try.func35.trans (congrArg some (by kernel_rfl))⟩
  f15 := Try.func36.trans (congrArg some (by kernel_rfl))
  f20 := ⟨Try.f40.name, by kernel_rfl, Try.func40.trans (congrArg some (by kernel_rfl))⟩
  f21 := ⟨Try.f41.name, by kernel_rfl, Try.func41.trans (congrArg some (by kernel_rfl))⟩
  f22 := ⟨Try.f42.name, by kernel_rfl, Try.func42.trans (congrArg some (by kernel_rfl))⟩
  f23 := ⟨Try.f43.name, by kernel_rfl, Try.func43.trans (congrArg some (by kernel_rfl))⟩
  f24 := ⟨Try.f44.name, by kernel_rfl, Try.func44.trans (congrArg some (by kernel_rfl))⟩
  f25 := ⟨Try.f45.name, by kernel_rfl, Try.func45.trans (congrArg some (by kernel_rfl))⟩
  f26 := ⟨Try.f46.name, by kernel_rfl, Try.func46.trans (congrArg some (by kernel_rfl))⟩
  f27 := ⟨Try.f47.name, by kernel_rfl, Try.func47.trans (congrArg some (by kernel_rfl))⟩
  f28 := Try.func48.trans (congrArg some (by kernel_rfl))
  f29 := Try.func49.trans (congrArg some (by kernel_rfl))
  f46 := ⟨Try.f52.name, by kernel_rfl, Try.func52.trans (congrArg some (by kernel_rfl))⟩
  f47 := Try.func53.trans (congrArg some (by kernel_rfl))
  f48 := Try.func54.trans (congrArg some (by kernel_rfl))
  f49 := ⟨Try.f55.name, by kernel_rfl, Try.func55.trans (congrArg some (by kernel_rfl))⟩
  f50 := ⟨Try.f56.name, by kernel_rfl, Try.func56.trans (congrArg some (by kernel_rfl))⟩
  f57 := ⟨Try.f61.name, by kernel_rfl, Try.func61.trans (congrArg some (by kernel_rfl))⟩
  t0 := by kernel_rfl
  a0 := fun _ => by kernel_rfl
  z0 := fun _ => by kernel_rfl
  v0 := fun _ => by kernel_rfl
  t3 := by kernel_rfl
  a3 := fun _ => by kernel_rfl
  z3 := fun _ => by kernel_rfl
  v3 := fun _ => by kernel_rfl
  t4 := by kernel_rfl
  a4 := fun _ => by kernel_rfl
  z4 := fun _ => by kernel_rfl
  v4 := fun _ => by kernel_rfl
  t5 := by kernel_rfl
  a5 := fun _ => by kernel_rfl
  z5 := fun _ => by kernel_rfl
  v5 := fun _ => by kernel_rfl
  t9 := by kernel_rfl
  a9 := fun _ => by kernel_rfl
  z9 := fun _ => by kernel_rfl
  v9 := fun _ => by kernel_rfl
  t22 := by kernel_rfl
  a22 := fun _ => by kernel_rfl
  z22 := fun _ => by kernel_rfl
  v22 := fun _ => by kernel_rfl
  t25 := by kernel_rfl
  a25 := fun _ => by kernel_rfl
  z25 := fun _ => by kernel_rfl
  v25 := fun _ => by kernel_rfl
  t39 := by kernel_rfl
  a39 := fun _ => by kernel_rfl
  z39 := fun _ => by kernel_rfl
  v39 := fun _ => by kernel_rfl
  t45 := by kernel_rfl
  a45 := fun _ => by kernel_rfl
  z45 := fun _ => by kernel_rfl
  v45 := fun _ => by kernel_rfl
  t46 := by kernel_rfl
  a46 := fun _ => by kernel_rfl
  z46 := fun _ => by kernel_rfl
  v46 := fun _ => by kernel_rfl
  t50 := by kernel_rfl
  a50 := fun _ => by kernel_rfl
  z50 := fun _ => by kernel_rfl
  v50 := fun _ => by kernel_rfl
  t53 := by kernel_rfl
  a53 := fun _ => by kernel_rfl
  z53 := fun _ => by kernel_rfl
  v53 := fun _ => by kernel_rfl
  t55 := by kernel_rfl
  a55 := fun _ => by kernel_rfl
  z55 := fun _ => by kernel_rfl
  v55 := fun _ => by kernel_rfl
  t66 := by kernel_rfl
  a66 := fun _ => by kernel_rfl
  z66 := fun _ => by kernel_rfl
  v66 := fun _ => by kernel_rfl
  t70 := by kernel_rfl
  a70 := fun _ => by kernel_rfl
  z70 := fun _ => by kernel_rfl
  v70 := fun _ => by kernel_rfl
  t76 := by kernel_rfl
  a76 := fun _ => by kernel_rfl
  z76 := fun _ => by kernel_rfl
  v76 := fun _ => by kernel_rfl
  t77 := by kernel_rfl
  a77 := fun _ => by kernel_rfl
  z77 := fun _ => by kernel_rfl
  v77 := fun _ => by kernel_rfl
theorem isAggP (w : World) : (isAgg 31).run Try.prog w = .ok true w := by kernel_rfl
theorem sizeOfP (w : World) : (Go.sizeOf 31).run Try.prog w = .ok 5 w := by kernel_rfl
theorem sortFunc_any (blk off cap : Nat) (d : Array Pr) (w : World) (hH : HoldsK prC 5 w blk off d) (hblk : blk < w.heap.size) (hsz : d.size < 4611686018427387904) :
    Calls Try.prog 17 #[.slice (some ⟨blk, off, none⟩) d.size cap, .func (.func 18) #[] #[]] w fun e w' =>
      e = .returned (.tuple #[]) ∧ ∃ d' n os, PermIn 0 d.size d d' ∧ SortedIn (ltOf cfP) 0 d.size d' ∧ w' = sortWorldK prC 5 w blk off n d' os := by
  have h := AnyQ.slices_SortFunc srtLays 5 isAggP sizeOfP prC prC_five prC_cell cfP ltP_swo 18 #[] blk off cap d w (enters_of Try.func18 (by kernel_rfl) rfl) (byName_lays blk off d.size w) hH hblk hsz
  exact h
end Go.Proofs.Ythfladbanghkiaa.Sm
