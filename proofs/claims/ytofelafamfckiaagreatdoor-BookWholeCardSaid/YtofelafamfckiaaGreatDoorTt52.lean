/- Merged: BkTab. -/
import Derived.Test.YtofelafamfckiaaGreatDoorTt44
import Derived.Lib.LaidTab
import Derived.Stop.LaidErr
import Derived.ChangeSame
namespace Go.Proofs.YtofelafamfckiaaGreatDoor
namespace Bk
open Go.RowKit Go.ChangeShapes Utf
theorem qmJ:Tryz.prog.globalNamed "cardbox/book.names" = some 0:=by kernel_rfl
theorem qjt:(Tryz.prog.globals[0]?).map (·.type)=some 54:=by kernel_rfl
theorem qlS:Tryz.prog.cellsOf 54=4:=by kernel_rfl
theorem qlK:Tryz.prog.cellsOf 9=1:=by kernel_rfl
theorem qfG {w:World} {fuel:Nat} {cs:List Value} {p:List MemPlace}
  (h:DataW.trod (fun _=>()) Tryz.prog w 0 (fun _=>true) false fuel 54 cs=some (Rows.laid_cardbox_book_names,p)):∀ k,k<4→cs[k]? = some (.string (ae (bo k))):=by
 cases fuel with
 | zero=>simp [DataW.trod] at h
 | succ fuel=>
  simp only [DataW.trod,Tryz.underlying54,qlS,qlK] at h;split at h
  ·obtain ⟨xs,hm,hx⟩:=Option.map_eq_some_iff.1 h;have hxs:xs.map (·.1)=(DataW.lit (H:=Unit) (.string bb) :: .lit (.string bO) :: .lit (.string ay) :: .lit (.string bK)::[]):=by
    have:=congrArg Prod.fst hx
    simpa [Rows.laid_cardbox_book_names,bb,bO,ay,bK] using this
   have key:∀ i,i<4→∀ a:List UInt8,(xs.map (·.1))[i]? = some (DataW.lit (H:=Unit) (.string a))→cs[i]? = some (.string (ae a)):=by
    intro i hi a hab;obtain ⟨y,hy,hf⟩:=Lib.mapM_at hm i i (by simp [hi]);rw [List.getElem?_map,hy] at hab;have hya:y.1=_:=Option.some.inj hab;obtain ⟨s,hc,hy0,_⟩:=DataW.trod_string Tryz.underlying9 hf;rw [hy0] at hya;simp only [DataW.lit.injEq,Lit.string.injEq] at hya;have e0:=congrArg (·[0]?) hc;simp [List.getElem?_drop] at e0;rw [e0,←hya];rfl
   intro k hk;have:k=0∨k=1∨k=2∨k=3:=by omega
   rcases this with rfl | rfl | rfl | rfl
   ·exact key 0 (by omega) bb (by rw [hxs];rfl)
   ·exact key 1 (by omega) bO (by rw [hxs];rfl)
   ·exact key 2 (by omega) ay (by rw [hxs];rfl)
   ·exact key 3 (by omega) bK (by rw [hxs];rfl)
  ·cases h
theorem qnf {W:World} (h:laidMetH Tryz.prog [("cardbox/book.names",Rows.laid_cardbox_book_names)] W):Tab W:=by
 have h2:laidMet Tryz.prog [("cardbox/book.names",Rows.laid_cardbox_book_names)] W:=h
 intro k hk;obtain ⟨ps,⟨g',t',cs,fuel,p,q,hg',ht',hvar,hd,_,_⟩,_⟩:=h2;obtain rfl:=Option.some.inj (qjt.symm.trans (by rw [←ht',Option.some.inj (qmJ.symm.trans hg')]));have hc:=qfG hd k hk;have:=World.var?_cell qmJ hvar k;rw [this]
 simpa using hc
