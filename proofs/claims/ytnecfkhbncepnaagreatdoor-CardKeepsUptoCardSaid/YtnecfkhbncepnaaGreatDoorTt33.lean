/- Merged: SmH. -/
import Derived.Test.YtnecfkhbncepnaaGreatDoorTt24
import Derived.Test.YtnecfkhbncepnaaGreatDoorTt5
import Derived.Shelf.SlSortCmp.WholeK
set_option maxRecDepth 100000
set_option maxHeartbeats 1000000
namespace Go.Proofs.YtnecfkhbncepnaaGreatDoor
namespace Sm
open Go.Proofs Go.RowKit Go.Sort Go.Shelf Go.Lib Utf Nu Wo
instance:Inhabited Pr:=⟨Pr.zero⟩
def cfP (x y:Pr):Int:=Lib.compareBytes x.nm y.nm
theorem qij (x:Pr):(prC x).length=5:=rfl
theorem qnd (x:Pr):∀ v∈prC x,v.oneCell'=true:=qtz _ _ _ _ _
theorem qsO (x y:Pr):ltOf cfP x y=Tr.ltN x.nm y.nm:=rfl
theorem qp5:SWO (ltOf cfP) where
 irrefl x:=Tr.cD.irrefl x.nm
 trans _ _ _ h1 h2:=Tr.cD.trans _ _ _ h1 h2
 ntrans _ _ _ h1 h2:=Tr.cD.ntrans _ _ _ h1 h2
theorem cT:Tryz.prog.follows .mixedOrders=true:=by kernel_rfl
theorem qbF (x y:Pr) (W:World):Calls Tryz.prog 38 #[.agg (prC x).toArray,.agg (prC y).toArray] W fun e w'=>e = .returned (.int .i64 (cfP x y))∧∃ q os',w'=grow (W.drewN q) os':=by
 have hcon:=fun W'=>Tr.qdb (aa x.nm) (aa y.nm) W';obtain ⟨xm,x1,x2,x3,x4⟩:=x;obtain ⟨ym,y1,y2,y3,y4⟩:=y;simp only [prC,cfP] at *;rw [aD,aD] at hcon;generalize Lib.compareBytes xm ym=r at *;generalize aa xm=X at *;generalize aa ym=Y at *;go_enter Tryz.func38,Tryz.ntmps38;go_wp2_with (go_at_call 39;refine (hcon _).mono ?_;rintro e w' ⟨rfl,rfl⟩)
 go_ret;exact ⟨rfl,0,_,by rw [alloc_eq_grow,alloc_eq_grow,grow_grow];rfl⟩
theorem bh (blk off size:Nat) (w:World):CmpLays Tryz.prog 38 #[] prC 5 cfP blk off size w:=
 fun _ _ _ _ x y=>qbF x y _
def qr2:Ren where
 f:=fun k=>if k=6 then 37 else if k=14 then 73 else if k=15 then 46 else if k=20 then 130 else if k=21 then 131 else if k=22 then 132 else if k=23 then 133 else if k=24 then 134 else if k=25 then 135 else if k=26 then 136 else if k=27 then 137 else if k=28 then 101 else if k=29 then 102 else if k=46 then 174 else if k=47 then 156 else if k=48 then 157 else if k=49 then 175 else if k=50 then 176 else 198
 t:=fun k=>if k=0 then 0 else if k=3 then 3 else if k=4 then 4 else if k=5 then 5 else if k=9 then 9 else if k=22 then 48 else if k=24 then 76 else if k=25 then 78 else if k=39 then 87 else if k=45 then 121 else if k=46 then 122 else if k=50 then 126 else if k=53 then 129 else if k=55 then 131 else if k=66 then 161 else if k=70 then 165 else if k=76 then 194 else 195
 g:=fun k=>k
theorem qkv:SlLaysF0.n6 Tryz.prog qr2 where
 mixed:=cT
 f6:=⟨Tryz.f37.name,by kernel_rfl,Tryz.func37.trans (congrArg some (by kernel_rfl))⟩
 f14:=⟨Tryz.f73.name,by kernel_rfl,Tryz.func73.trans (congrArg some (by kernel_rfl))⟩
 f15:=Tryz.func46.trans (congrArg some (by kernel_rfl))
 f20:=⟨Tryz.f130.name,by kernel_rfl,Tryz.func130.trans (congrArg some (by kernel_rfl))⟩
 f21:=⟨Tryz.f131.name,by kernel_rfl,Tryz.func131.trans (congrArg some (by kernel_rfl))⟩
 f22:=⟨Tryz.f132.name,by kernel_rfl,Tryz.func132.trans (congrArg some (by kernel_rfl))⟩
 f23:=⟨Tryz.f133.name,by kernel_rfl,Tryz.func133.trans (congrArg some (by kernel_rfl))⟩
 f24:=⟨Tryz.f134.name,by kernel_rfl,Tryz.func134.trans (congrArg some (by kernel_rfl))⟩
 f25:=⟨Tryz.f135.name,by kernel_rfl,Tryz.func135.trans (congrArg some (by kernel_rfl))⟩
 f26:=⟨Tryz.f136.name,by kernel_rfl,Tryz.func136.trans (congrArg some (by kernel_rfl))⟩
 f27:=⟨Tryz.f137.name,by kernel_rfl,Tryz.func137.trans (congrArg some (by kernel_rfl))⟩
 f28:=Tryz.func101.trans (congrArg some (by kernel_rfl))
 f29:=Tryz.func102.trans (congrArg some (by kernel_rfl))
 f46:=⟨Tryz.f174.name,by kernel_rfl,Tryz.func174.trans (congrArg some (by kernel_rfl))⟩
 f47:=Tryz.func156.trans (congrArg some (by kernel_rfl))
 f48:=Tryz.func157.trans (congrArg some (by kernel_rfl))
 f49:=⟨Tryz.f175.name,by kernel_rfl,Tryz.func175.trans (congrArg some (by kernel_rfl))⟩
 f50:=⟨Tryz.f176.name,by kernel_rfl,Tryz.func176.trans (congrArg some (by kernel_rfl))⟩
 f57:=⟨Tryz.f198.name,by kernel_rfl,Tryz.func198.trans (congrArg some (by kernel_rfl))⟩
 t0:=by kernel_rfl
 a0:=fun _=>by kernel_rfl
 z0:=fun _=>by kernel_rfl
 v0:=fun _=>by kernel_rfl
 t3:=by kernel_rfl
 a3:=fun _=>by kernel_rfl
 z3:=fun _=>by kernel_rfl
 v3:=fun _=>by kernel_rfl
 t4:=by kernel_rfl
 a4:=fun _=>by kernel_rfl
 z4:=fun _=>by kernel_rfl
 v4:=fun _=>by kernel_rfl
 t5:=by kernel_rfl
 a5:=fun _=>by kernel_rfl
 z5:=fun _=>by kernel_rfl
 v5:=fun _=>by kernel_rfl
 t9:=by kernel_rfl
 a9:=fun _=>by kernel_rfl
 z9:=fun _=>by kernel_rfl
 v9:=fun _=>by kernel_rfl
 t22:=by kernel_rfl
 a22:=fun _=>by kernel_rfl
 z22:=fun _=>by kernel_rfl
 v22:=fun _=>by kernel_rfl
 t25:=by kernel_rfl
 a25:=fun _=>by kernel_rfl
 z25:=fun _=>by kernel_rfl
 v25:=fun _=>by kernel_rfl
 t39:=by kernel_rfl
 a39:=fun _=>by kernel_rfl
 z39:=fun _=>by kernel_rfl
 v39:=fun _=>by kernel_rfl
 t45:=by kernel_rfl
 a45:=fun _=>by kernel_rfl
 z45:=fun _=>by kernel_rfl
 v45:=fun _=>by kernel_rfl
 t46:=by kernel_rfl
 a46:=fun _=>by kernel_rfl
 z46:=fun _=>by kernel_rfl
 v46:=fun _=>by kernel_rfl
 t50:=by kernel_rfl
 a50:=fun _=>by kernel_rfl
 z50:=fun _=>by kernel_rfl
 v50:=fun _=>by kernel_rfl
 t53:=by kernel_rfl
 a53:=fun _=>by kernel_rfl
 z53:=fun _=>by kernel_rfl
 v53:=fun _=>by kernel_rfl
 t55:=by kernel_rfl
 a55:=fun _=>by kernel_rfl
 z55:=fun _=>by kernel_rfl
 v55:=fun _=>by kernel_rfl
 t66:=by kernel_rfl
 a66:=fun _=>by kernel_rfl
 z66:=fun _=>by kernel_rfl
 v66:=fun _=>by kernel_rfl
 t70:=by kernel_rfl
 a70:=fun _=>by kernel_rfl
 z70:=fun _=>by kernel_rfl
 v70:=fun _=>by kernel_rfl
 t76:=by kernel_rfl
 a76:=fun _=>by kernel_rfl
 z76:=fun _=>by kernel_rfl
 v76:=fun _=>by kernel_rfl
 t77:=by kernel_rfl
 a77:=fun _=>by kernel_rfl
 z77:=fun _=>by kernel_rfl
 v77:=fun _=>by kernel_rfl
theorem qrV (w:World):(isAgg 76).run Tryz.prog w = .ok true w:=by kernel_rfl
theorem qqZ (w:World):(Go.sizeOf 76).run Tryz.prog w = .ok 5 w:=by kernel_rfl
theorem qgt (blk off cap:Nat) (d:Array Pr) (w:World) (hH:HoldsK prC 5 w blk off d) (hblk:blk<w.heap.size) (hsz:d.size<4611686018427387904) :
  Calls Tryz.prog 37 #[.slice (some ⟨blk,off,none⟩) d.size cap,.func (.func 38) #[] #[]] w fun e w'=>
   e = .returned (.tuple #[])∧∃ d' n os,PermIn 0 d.size d d'∧SortedIn (ltOf cfP) 0 d.size d'∧w'=sortWorldK prC 5 w blk off n d' os:=by
 have h:=AnyQ.slices_SortFunc qkv 5 qrV qqZ prC qij qnd cfP qp5 38 #[] blk off cap d w (enters_of Tryz.func38 (by kernel_rfl) rfl) (bh blk off d.size w) hH hblk hsz;exact h
