/- Merged: StTab. -/
import Derived.Test.YtnecfkhbncepnaaGreatDoorRows
import Derived.Test.YtnecfkhbncepnaaGreatDoorTt2
import Derived.Lib.LaidTab
import Derived.Stop.LaidErr
import Derived.ChangeSame
namespace Go.Proofs.YtnecfkhbncepnaaGreatDoor
namespace St
open Go.RowKit Go.ChangeShapes Utf
theorem qtH:Tryz.prog.globalNamed "cardbox/stamp.monthDays" = some 2:=by kernel_rfl
theorem qoE:(Tryz.prog.globals[2]?).map (·.type)=some 218:=by kernel_rfl
theorem qtW:Tryz.prog.globalNamed "cardbox/stamp.places" = some 1:=by kernel_rfl
theorem qog:(Tryz.prog.globals[1]?).map (·.type)=some 189:=by kernel_rfl
theorem qq0:Tryz.prog.cellsOf 218=12:=by kernel_rfl
theorem qp4:Tryz.prog.cellsOf 189=12:=by kernel_rfl
theorem qrD:Tryz.prog.cellsOf 188=2:=by kernel_rfl
theorem qqz:Tryz.prog.cellsOf 2=1:=by kernel_rfl
theorem qsV:Tryz.prog.cellsOf 3=1:=by kernel_rfl
theorem qhG {w:World} {fuel:Nat} {cs:List Value} {p:List MemPlace}
  (h:DataW.trod (fun _=>()) Tryz.prog w 0 (fun _=>true) false fuel 189 cs=some (Rows.laid_cardbox_stamp_places,p)):∀ k,k<12→cs[k]? = some (.int .i64 (plc k)):=by
 cases fuel with
 | zero=>simp [DataW.trod] at h
 | succ fuel=>
  simp only [DataW.trod,Tryz.underlying189,qp4,qrD] at h;split at h
  ·obtain ⟨xs,hm,hx⟩:=Option.map_eq_some_iff.1 h;have hxs:xs.map (·.1)=(DataW.agg (H:=Unit) [.lit (.int .i64 0),.lit (.int .i64 4)] :: .agg [.lit (.int .i64 5),.lit (.int .i64 7)] :: .agg [.lit (.int .i64 8),.lit (.int .i64 10)] :: .agg [.lit (.int .i64 11),.lit (.int .i64 13)] :: .agg [.lit (.int .i64 14),.lit (.int .i64 16)] :: .agg [.lit (.int .i64 17),.lit (.int .i64 19)]::[]):=by
    have:=congrArg Prod.fst hx
    simpa [Rows.laid_cardbox_stamp_places] using this
   have key:∀ i,i<6→∀ a b:Int,(xs.map (·.1))[i]? = some (DataW.agg (H:=Unit) [.lit (.int .i64 a),.lit (.int .i64 b)])→cs[i*2]? = some (.int .i64 a)∧cs[i*2+1]? = some (.int .i64 b):=by
    intro i hi a b hab;obtain ⟨y,hy,hf⟩:=Lib.mapM_at hm i i (by simp [hi]);rw [List.getElem?_map,hy] at hab;have hya:y.1=_:=Option.some.inj hab;obtain ⟨y0,y1,n,rfl,_,h0,h1⟩:=trod_struct2 Tryz.underlying188 hf;simp only [DataW.agg.injEq,List.cons.injEq,and_true] at hya;obtain ⟨z0,hc0,hy0,_⟩:=DataW.trod_int Tryz.underlying3 h0;obtain ⟨z1,hc1,hy1,_⟩:=DataW.trod_int Tryz.underlying3 h1;rw [hy0] at hya;rw [hy1] at hya;simp only [DataW.lit.injEq,Lit.int.injEq,true_and] at hya;obtain ⟨rfl,rfl⟩:=hya;have e0:=congrArg (·[0]?) hc0;have e1:=congrArg (·[0]?) hc1;simp [List.getElem?_drop,qsV] at e0 e1;exact ⟨e0,e1⟩
   have k0:=key 0 (by omega) 0 4 (by rw [hxs];rfl);have k1:=key 1 (by omega) 5 7 (by rw [hxs];rfl);have k2:=key 2 (by omega) 8 10 (by rw [hxs];rfl);have k3:=key 3 (by omega) 11 13 (by rw [hxs];rfl);have k4:=key 4 (by omega) 14 16 (by rw [hxs];rfl);have k5:=key 5 (by omega) 17 19 (by rw [hxs];rfl);intro k hk;have:k=0∨k=1∨k=2∨k=3∨k=4∨k=5∨k=6∨k=7∨k=8∨k=9∨k=10∨k=11:=by omega
   rcases this with rfl | rfl | rfl | rfl | rfl | rfl | rfl | rfl | rfl | rfl | rfl | rfl
   ·exact k0.1
   ·exact k0.2
   ·exact k1.1
   ·exact k1.2
   ·exact k2.1
   ·exact k2.2
   ·exact k3.1
   ·exact k3.2
   ·exact k4.1
   ·exact k4.2
   ·exact k5.1
   ·exact k5.2
  ·cases h
theorem qum {W:World} (h:laidMetH Tryz.prog [("cardbox/stamp.places",Rows.laid_cardbox_stamp_places),("cardbox/stamp.monthDays",Rows.laid_cardbox_stamp_monthDays)] W):Tab W:=by
 have h2:laidMet Tryz.prog [("cardbox/stamp.places",Rows.laid_cardbox_stamp_places),("cardbox/stamp.monthDays",Rows.laid_cardbox_stamp_monthDays)] W:=h
 have T:Lib.TabIs Tryz.prog W "cardbox/stamp.monthDays" .i64 [31,28,31,30,31,30,31,31,30,31,30,31]:=
  Lib.tabIs_of_head (rest:=[]) qtH qoE Tryz.underlying218 Tryz.underlying2 qqz qq0 h2.tail
 refine ⟨fun k hk=>T.cell qtH k hk,fun k hk=>?_⟩;obtain ⟨ps,⟨g',t',cs,fuel,p,q,hg',ht',hvar,hd,_,_⟩,_⟩:=h2;obtain rfl:=Option.some.inj (qog.symm.trans (by rw [←ht',Option.some.inj (qtW.symm.trans hg')]));have hc:=qhG hd k hk;have:=World.var?_cell qtW hvar k;rw [this]
 simpa using hc
