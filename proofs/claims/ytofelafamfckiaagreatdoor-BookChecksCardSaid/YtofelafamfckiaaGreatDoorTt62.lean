/- Merged: BkW2 BkW1. -/
import Derived.Test.YtofelafamfckiaaGreatDoorTt60
import Derived.Test.YtofelafamfckiaaGreatDoorTt57
import Derived.Lib.QuietBelow
set_option maxRecDepth 100000
set_option maxHeartbeats 1000000
set_option linter.unusedSimpArgs false
namespace Go.Proofs.YtofelafamfckiaaGreatDoor
namespace Bk
open Go.Proofs Go.RowKit Utf Sc Re Tr Po
open Cd (mem fst cK tN tM)
theorem qlo {W u w':World} {b:Nat} {v0 v1 v2 v3 v4:Value} (h:Below W.heap.size W u∧u.cell? ⟨b,0,none⟩=some v0∧u.cell? ⟨b,1,none⟩=some v1∧u.cell? ⟨b,2,none⟩=some v2∧u.cell? ⟨b,3,none⟩=some v3∧u.cell? ⟨b,4,none⟩=some v4) (hb:Below u.heap.size u w') (hlt:b<W.heap.size) :
  Below W.heap.size W w'∧w'.cell? ⟨b,0,none⟩=some v0∧w'.cell? ⟨b,1,none⟩=some v1∧w'.cell? ⟨b,2,none⟩=some v2∧w'.cell? ⟨b,3,none⟩=some v3∧w'.cell? ⟨b,4,none⟩=some v4:=by
 obtain ⟨h0,h1,h2,h3,h4,h5⟩:=h;have hs:=h0.size;have k:∀ j,w'.cell? ⟨b,j,none⟩=u.cell? ⟨b,j,none⟩:=fun j=>hb.cell (p:=⟨b,j,none⟩) (by show b<_;omega);exact ⟨h0.trans (hb.mono hs),(k 0).trans h1,(k 1).trans h2,(k 2).trans h3,(k 3).trans h4,(k 4).trans h5⟩
theorem qiq (y:V) (hz:szA 4611686018427387904 y) (ca cb:List Value) (w:World) (ha:RdA w 0 w.heap.size y ca) (hb:RdA w 0 w.heap.size y cb):Calls Tryz.prog 13 #[.agg ca.toArray,.agg cb.toArray] w fun e w'=>e = .returned (.bool true)∧Below w.heap.size w w':=by
 exact (qdW (ht y) y y ca cb w (Nat.le_refl _) hz ha hb).mono fun _ _ t=>qfi rfl t
end Bk
end Go.Proofs.YtofelafamfckiaaGreatDoor
set_option linter.unusedSimpArgs false
namespace Go.Proofs.YtofelafamfckiaaGreatDoor
namespace Bk
open Go.Proofs Go.RowKit Utf Sc Re Tr Po
open Pa (qb3)
open Cd (mem fst)
theorem qlr {v:V} {w:World} {e:Ending} {w':World} (h:cG v w e w'):(∃ x,e = .returned x∧Rd w' w'.heap.size x (aD (cR v)))∧Below w.heap.size w w':=by
 obtain ⟨x,ps,rfl,hown,hr,hm,hb⟩:=h;obtain ⟨b1,b2⟩:=qfl v;have e:ps=cR v:=qdU hr b1 (fun n=>by rw [hm n,b2 n]);rw [e] at hown;exact ⟨⟨x,rfl,Rd.of_own hown⟩,hb⟩
theorem qgY {v:V} (hg:∀ n,bI v n=false) {w:World} {e:Ending} {w':World} (h:qa3 v w e w') :
  (∃ g c,e = .returned (.agg #[.int .i64 6,.int .i64 0,.string ⟨#[]⟩,.slice none 0 0,.slice (some ⟨g,0,none⟩) 4 c])∧RdA w' 0 w'.heap.size (cq v) [.int .i64 6,.int .i64 0,.string ⟨#[]⟩,.slice none 0 0,.slice (some ⟨g,0,none⟩) 4 c])∧Below w.heap.size w w':=by
 obtain ⟨h,hb⟩:=h;rcases h with ⟨-,g,c,rfl, -, -, -,hr⟩ | ⟨h, -⟩
 ·exact ⟨⟨g,c,rfl,hr⟩,hb⟩
 ·exact absurd hg h
theorem qjA {v:V} (hg:¬ ∀ n,bI v n=false) {w:World} {e:Ending} {w':World} (h:qa3 v w e w') :
  e = .returned (.agg #[.int .i64 0,.int .i64 0,.string ⟨#[]⟩,.slice none 0 0,.slice none 0 0])∧Below w.heap.size w w':=by
 obtain ⟨h,hb⟩:=h;rcases h with ⟨h, -⟩ | ⟨-,h⟩
 ·exact absurd h hg
 ·exact ⟨h,hb⟩
theorem qjU {v:V} {m:Nat} (h:(mem v).length≤m):(cR v).length≤m+1:=by
 unfold cR;have h2:(bP (if v.k=6 then mem v else [])).length≤m:=by
  refine Nat.le_trans (qaL _).2.1 ?_;split
  ·exact h
  ·exact Nat.zero_le _
 split
 ·omega
 ·have:=qcP (bP (if v.k=6 then mem v else [])) ah (qaL _).1;omega
theorem qlj (v:V) (cv:List Value) (w:World) (hv:RdA w 0 w.heap.size v cv) (zv:szA reachBytes v) (hT:Tab w) :
  Calls Tryz.prog 3 #[.agg cv.toArray] w fun e w'=>e = .returned (.bool true)∧Below w.heap.size w w':=by
 have HTT:=zh hT;have rv:szA 140737488355328 v:=Em.du (by decide) _ zv;have zv':szA 140737488351232 v:=zv;have sv:szA 4611686018427387904 v:=Em.du (by decide) _ zv;have HSZ:=zh (qjq sv);have HFEW:=zh (fun (W:World) (hW:Below w.heap.size w W)=>qlM v cv 1500 (by omega) W sv (hv.below hW (Nat.le_refl _) hW.size));have HCK:=zh (fun (W:World) (hW:Below w.heap.size w W)=>(qad v cv W (hv.below hW (Nat.le_refl _) hW.size) rv).mono (fun e w' h=>qlr h));have HRK:=zh (fun (W:World) (hW:Below w.heap.size w W)=>(qcO v cv W (hv.below hW (Nat.le_refl _) hW.size) zv').mono (fun e w' h=>qlr h));have HWHG:=zh (fun (hg:∀ n,bI v n=false) (W:World) (hW:Below w.heap.size w W)=>(qbm v cv W (HTT.out.below hW) (hv.below hW (Nat.le_refl _) hW.size) rv).mono (fun e w' h=>qgY hg h));have HRWG:=zh (fun (hg:∀ n,bI v n=false) (W:World) (hW:Below w.heap.size w W)=>(qdf v cv W (hv.below hW (Nat.le_refl _) hW.size) zv').mono (fun e w' h=>qgY hg h));have HWHB:=zh (fun (hg:¬ ∀ n,bI v n=false) (W:World) (hW:Below w.heap.size w W)=>(qbm v cv W (HTT.out.below hW) (hv.below hW (Nat.le_refl _) hW.size) rv).mono (fun e w' h=>qjA hg h));have HRWB:=zh (fun (hg:¬ ∀ n,bI v n=false) (W:World) (hW:Below w.heap.size w W)=>(qdf v cv W (hv.below hW (Nat.le_refl _) hW.size) zv').mono (fun e w' h=>qjA hg h));have HBL:=zh (show (cR v).length≤4611686018427387904 by
  have h1:=((bH _ v).1 zv').2.2.2.2.1;have h2:(mem v).length≤v.ms.length:=by show (v.ns.zip v.ms).length≤_;rw [List.length_zip];omega
  have:=qjU h2;omega)
 obtain ⟨A1,c1,A2,c2,ev, -⟩:=hv.cells;subst ev;clear hT rv hv zv zv' sv;obtain ⟨k,hk⟩:∃ q,v.k=q:=⟨_,rfl⟩
 obtain ⟨n,hn⟩:∃ q,v.n=q:=⟨_,rfl⟩
 obtain ⟨S,hS⟩:∃ q,ae v.s=q:=⟨_,rfl⟩
 obtain ⟨l1,hl1⟩:∃ q,v.l.length=q:=⟨_,rfl⟩
 obtain ⟨m1,hm1⟩:∃ q,v.ms.length=q:=⟨_,rfl⟩
 rw [hk,hn,hS,hl1,hm1] at HFEW HCK HRK HWHG HRWG HWHB HRWB ⊢;clear hk hn hS hl1 hm1;obtain ⟨W0,hW0⟩:∃ W0,W0=(w.alloc (.cells #[.int .i64 k,.int .i64 n,.string S,.slice A1 l1 c1,.slice A2 m1 c2] 25)):=⟨_,rfl⟩
 have HBW0:=zh (show Below w.heap.size w W0 by rw [hW0];exact (Below.refl _ _).alloc (Nat.le_refl _) _);have hs0:W0.heap.size=w.heap.size+1:=by rw [hW0,aE]
 have RW0_0:=zh (show W0.heap[w.heap.size]? = some (.cells #[.int .i64 k,.int .i64 n,.string S,.slice A1 l1 c1,.slice A2 m1 c2] 25 (0,0)) by rw [hW0];exact (show (w.alloc (.cells #[.int .i64 k,.int .i64 n,.string S,.slice A1 l1 c1,.slice A2 m1 c2] 25)).heap[w.heap.size]? = some (.cells #[.int .i64 k,.int .i64 n,.string S,.slice A1 l1 c1,.slice A2 m1 c2] 25 (0,0)) from by rw [show w.heap.size=w.heap.size by simp];exact af _ _));have LW0_0:=zh (show w.heap.size<W0.heap.size by omega);have HW0:=zh hW0;clear hW0 hs0;go_enter Tryz.func3,Tryz.ntmps3;have q0:=RW0_0.out;rw [HW0.out] at q0;obtain ⟨⟨p0_0,p0_1,p0_2,p0_3,p0_4⟩, -⟩:=ag q0;clear q0;go_wp2_with fail;rw [←HW0.out];clear p0_0 p0_1 p0_2 p0_3 p0_4;refine (qcm _ (HTT.out.below (RowKit.Hid.out (by assumption)))).mono ?_;rintro e w1 ⟨rfl,hb⟩;have Rw1_0:=zR hb LW0_0 RW0_0;have Lw1_0:=zL hb LW0_0;have HBw1:=zB hb HBW0;clear hb;obtain ⟨⟨p0_0,p0_1,p0_2,p0_3,p0_4⟩, -⟩:=ag Rw1_0.out;go_wp2_with fail;clear p0_0 p0_1 p0_2 p0_3 p0_4;refine (HFEW.out _ HBw1.out).mono ?_;rintro e w2 ⟨⟨b,rfl, -⟩,hb⟩;have Rw2_0:=zR hb Lw1_0 Rw1_0;have Lw2_0:=zL hb Lw1_0;have HBw2:=zB hb HBw1;clear hb;cases b
 ·obtain ⟨⟨p0_0,p0_1,p0_2,p0_3,p0_4⟩, -⟩:=ag Rw2_0.out;go_wp2_with fail;clear p0_0 p0_1 p0_2 p0_3 p0_4;refine (qcm _ (HTT.out.below (RowKit.Hid.out (by assumption)))).mono ?_;rintro e w3 ⟨rfl,hb⟩;have Rw3_0:=zR hb Lw2_0 Rw2_0;have Lw3_0:=zL hb Lw2_0;have HBw3:=zB hb HBw2;clear hb;go_wp2;go_ret;exact ⟨rfl,HBw3.out⟩
 ·by_cases hg:∀ n,bI v n=false
  ·have HC1:=zh (fun (u:World) (hu:Below w2.heap.size w2 u)=>HCK.out u (HBw2.out.trans (hu.mono HBw2.out.size)));have HC2:=zh (fun (u:World) (hu:Below w2.heap.size w2 u)=>HRK.out u (HBw2.out.trans (hu.mono HBw2.out.size)));have HW1:=zh (fun (u:World) (hu:Below w2.heap.size w2 u)=>HWHG.out hg u (HBw2.out.trans (hu.mono HBw2.out.size)));have HW2:=zh (fun (u:World) (hu:Below w2.heap.size w2 u)=>HRWG.out hg u (HBw2.out.trans (hu.mono HBw2.out.size)));have hlb:=Lw2_0.out;have hbd:Below w2.heap.size w2 w2.drew:=(Below.refl _ _).drew;obtain ⟨⟨p0_0,p0_1,p0_2,p0_3,p0_4⟩, -⟩:=ag Rw2_0.out;go_wp2_with fail;go_region_held3 (fun w'=>Below w2.heap.size w2 w'∧w'.cell? ⟨w.heap.size,0,none⟩=some (.int .i64 k)∧w'.cell? ⟨w.heap.size,1,none⟩=some (.int .i64 n)∧w'.cell? ⟨w.heap.size,2,none⟩=some (.string S)∧w'.cell? ⟨w.heap.size,3,none⟩=some (.slice A1 l1 c1)∧w'.cell? ⟨w.heap.size,4,none⟩=some (.slice A2 m1 c2)) (first | go_keep | exact qlo (by assumption) hbn hlb) (first | (go_at_call 11;refine (HC1.out _ (by go_split_ands;assumption)).mono ?_;rintro e u1 ⟨⟨x1,rfl,hr1⟩,hbn⟩) | (go_at_call 12;refine (HC2.out _ (by go_split_ands;assumption)).mono ?_;rintro e u2 ⟨⟨x2,rfl,hr2⟩,hbn⟩) | (go_at_call 10;refine (dj _ _ _ _ _ ((hr1.below' hbn (Nat.le_refl _)).more hbn.size) hr2 HBL.out).mono ?_;rintro e u3 ⟨⟨bb,rfl,hbb⟩,hbn⟩;obtain rfl:bb=true:=hbb.2 (by trivial)) | (go_at_call 14;refine (HW1.out _ (by go_split_ands;assumption)).mono ?_;rintro e u4 ⟨⟨g5,c5,rfl,hr5⟩,hbn⟩) | (go_at_call 15;refine (HW2.out _ (by go_split_ands;assumption)).mono ?_;rintro e u5 ⟨⟨g6,c6,rfl,hr6⟩,hbn⟩) | (go_at_call 13;refine (qiq (cq v) HSZ.out _ _ _ (hr5.below hbn (Nat.le_refl _) hbn.size) hr6).mono ?_;rintro e u6 ⟨rfl,hbn⟩))
   have hfin:Below w2.heap.size w2 u6:=by go_split_ands;assumption
   have HFIN:=zh (HBw2.out.trans (hfin.mono HBw2.out.size));go_wp2;go_ret;exact ⟨rfl,HFIN.out⟩
  ·have HC1:=zh (fun (u:World) (hu:Below w2.heap.size w2 u)=>HCK.out u (HBw2.out.trans (hu.mono HBw2.out.size)));have HC2:=zh (fun (u:World) (hu:Below w2.heap.size w2 u)=>HRK.out u (HBw2.out.trans (hu.mono HBw2.out.size)));have HW1:=zh (fun (u:World) (hu:Below w2.heap.size w2 u)=>HWHB.out hg u (HBw2.out.trans (hu.mono HBw2.out.size)));have HW2:=zh (fun (u:World) (hu:Below w2.heap.size w2 u)=>HRWB.out hg u (HBw2.out.trans (hu.mono HBw2.out.size)));have hlb:=Lw2_0.out;have hbd:Below w2.heap.size w2 w2.drew:=(Below.refl _ _).drew;obtain ⟨⟨p0_0,p0_1,p0_2,p0_3,p0_4⟩, -⟩:=ag Rw2_0.out;go_wp2_with fail;go_region_held3 (fun w'=>Below w2.heap.size w2 w'∧w'.cell? ⟨w.heap.size,0,none⟩=some (.int .i64 k)∧w'.cell? ⟨w.heap.size,1,none⟩=some (.int .i64 n)∧w'.cell? ⟨w.heap.size,2,none⟩=some (.string S)∧w'.cell? ⟨w.heap.size,3,none⟩=some (.slice A1 l1 c1)∧w'.cell? ⟨w.heap.size,4,none⟩=some (.slice A2 m1 c2)) (first | go_keep | exact qlo (by assumption) hbn hlb) (first | (go_at_call 11;refine (HC1.out _ (by go_split_ands;assumption)).mono ?_;rintro e u1 ⟨⟨x1,rfl,hr1⟩,hbn⟩) | (go_at_call 12;refine (HC2.out _ (by go_split_ands;assumption)).mono ?_;rintro e u2 ⟨⟨x2,rfl,hr2⟩,hbn⟩) | (go_at_call 10;refine (dj _ _ _ _ _ ((hr1.below' hbn (Nat.le_refl _)).more hbn.size) hr2 HBL.out).mono ?_;rintro e u3 ⟨⟨bb,rfl,hbb⟩,hbn⟩;obtain rfl:bb=true:=hbb.2 (by trivial)) | (go_at_call 14;refine (HW1.out _ (by go_split_ands;assumption)).mono ?_;rintro e u4 ⟨rfl,hbn⟩) | (go_at_call 15;refine (HW2.out _ (by go_split_ands;assumption)).mono ?_;rintro e u5 ⟨rfl,hbn⟩) | (go_at_call 13;refine (qb3 _).mono ?_;rintro e u6 ⟨rfl,hbn⟩))
   have hfin:Below w2.heap.size w2 u6:=by go_split_ands;assumption
   have HFIN:=zh (HBw2.out.trans (hfin.mono HBw2.out.size));go_wp2;go_ret;exact ⟨rfl,HFIN.out⟩
