/- Merged: PaW1 PaNm BkC. -/
import Derived.Test.YtofelafamfckiaaGreatDoorTt49
import Derived.Test.YtofelafamfckiaaGreatDoorTt50
import Derived.Test.YtofelafamfckiaaGreatDoorTt37
import Derived.Test.YtofelafamfckiaaGreatDoorTt48
set_option maxRecDepth 100000
set_option maxHeartbeats 1000000
set_option linter.unusedSimpArgs false
namespace Go.Proofs.YtofelafamfckiaaGreatDoor
namespace Pa
open Go.Proofs Go.RowKit Utf Sc Re Tr Po
open Em (bC szU wfV qaA chk qdM)
theorem qb3 (w:World):Calls Tryz.prog 13 #[.agg #[.int .i64 0,.int .i64 0,.string ⟨#[]⟩,.slice none 0 0,.slice none 0 0],.agg #[.int .i64 0,.int .i64 0,.string ⟨#[]⟩,.slice none 0 0,.slice none 0 0]] w fun e w'=>e = .returned (.bool true)∧Below w.heap.size w w':=
 qhI V0 [.int .i64 0,.int .i64 0,.string ⟨#[]⟩,.slice none 0 0,.slice none 0 0] [.int .i64 0,.int .i64 0,.string ⟨#[]⟩,.slice none 0 0,.slice none 0 0] w (by unfold V0;simp [szA,aV];decide) (qcv _ _ _) (qcv _ _ _)
end Pa
end Go.Proofs.YtofelafamfckiaaGreatDoor
set_option linter.unusedSimpArgs false
namespace Go.Proofs.YtofelafamfckiaaGreatDoor
namespace Pa
open Go.Proofs Go.RowKit Go.Lib Utf Sc Re Tr Po
theorem qkM (v:V) (cs:List Value) (nm:List UInt8) (w:World) (hv:RdA w 0 w.heap.size v cs) (hz:szA 4611686018427387904 v) :
  Calls Tryz.prog 30 #[.agg cs.toArray,.string (ae nm)] w (qcp (.bool (decide (nm∈inN v))) w):=by
 have HG:=zh (fun (W:World) (hW:Below w.heap.size w W)=>qg3 w.heap.size v cs nm W hW.size (hv.below hW (Nat.le_refl _) (Nat.le_refl _)) hz);obtain ⟨A0,c0,A20,c20,rfl, -⟩:=hv.cells;clear hv hz;obtain ⟨q,hq⟩:∃ q,decide (nm∈inN v)=q:=⟨_,rfl⟩
 have HQ:=zh hq;rw [hq];clear hq;generalize ae nm=X at *;generalize v.k=k at *;generalize v.n=n at *;generalize ae v.s=S at *;generalize v.l.length=l at *;generalize v.ms.length=m at *;obtain ⟨W0,hW0⟩:∃ W0,W0=w.alloc (.cells #[.int .i64 k,.int .i64 n,.string S,.slice A0 l c0,.slice A20 m c20] 25):=⟨_,rfl⟩
 have HB0:=zh (show Below w.heap.size w W0 by rw [hW0];exact (Below.refl _ _).alloc (Nat.le_refl _) _);have hr0:W0.heap[w.heap.size]? = some (.cells #[.int .i64 k,.int .i64 n,.string S,.slice A0 l c0,.slice A20 m c20] 25 (0,0)):=by rw [hW0];exact af _ _
 have HW0:=zh hW0;rw [hW0] at hr0;obtain ⟨⟨p0,p1,p2,p3,p4⟩, -⟩:=ag hr0;clear hW0 hr0;go_enter Tryz.func30,Tryz.ntmps30;go_wp2_with fail;rw [←HW0.out];refine (HG.out _ HB0.out).mono ?_;rintro e w1 ⟨⟨ca,rfl,hca⟩,hb1⟩;rw [HQ.out];obtain ⟨xA,xc,xB,xd,rfl, -⟩:=hca.cells;have HB1:=zh (HB0.out.trans (hb1.mono HB0.out.size));clear hca hb1 p0 p1 p2 p3 p4;generalize (bQ v nm).k=xk at *;generalize (bQ v nm).n=xn at *;generalize ae (bQ v nm).s=xS at *;generalize (bQ v nm).l.length=xl at *;generalize (bQ v nm).ms.length=xm at *;go_wp2;go_ret;exact ⟨rfl,HB1.out.alloc HB1.out.size _⟩
end Pa
namespace Bk
open Go.Proofs Go.RowKit Utf Sc Re Tr Po
open Pa (qmJ)
open Cd (mem fst cK qaN tN tM)
theorem qbk {w:World} {B B' E s n:Nat} {v:Value} {xs:List Value} (h:w.ownsRow B E s v n xs) (hb:B'≤B):w.ownsRow B' E s v n xs:=
 ⟨h.1,h.2.imp id fun ⟨g,cap,cur,h1,h2,h3⟩=>⟨g,cap,cur,h1,Nat.le_trans hb h2,h3⟩⟩
theorem qcO (v:V) (cs:List Value) (w:World) (hv:RdA w 0 w.heap.size v cs) (hz:szA 140737488351232 v):Calls Tryz.prog 12 #[.agg cs.toArray] w (cG v w):=by
 have sv:szA 4611686018427387904 v:=Em.du (by decide) _ hz;have HHS:=zh (fun (W:World) (hW:Below w.heap.size w W)=>Pa.qkM v cs ah W (hv.below hW (Nat.le_refl _) hW.size) sv);rw [show ae ah=(⟨#[110,97,109,101]⟩:ByteArray) from rfl] at HHS;have HPT:=zh (fun (x:Value) (l:List (List UInt8)) (W:World) (h1:Rd W W.heap.size x (aD l)) (h2:l.length≤2000000000000)=>qfj x l ah W h1 h2);rw [show ae ah=(⟨#[110,97,109,101]⟩:ByteArray) from rfl] at HPT;have HBA:=zh (qfl v);have hdef:cR v=if ah∈inN v then bP (if v.k=6 then mem v else []) else qar (bP (if v.k=6 then mem v else [])) ah:=rfl
 obtain ⟨A0,c0,A20,c20,T,ecs,t1,t2,t3,t4,t5,t6⟩:=cK hv;have hT:T.length*96≤140737488351232:=by rw [t1];exact ((bH _ v).1 hz).2.2.2.2.1
 have hmem:=qaN t2 t3;subst ecs;clear hv hz sv;obtain ⟨k,hk⟩:∃ x,v.k=x:=⟨_,rfl⟩
 rw [hk] at HHS hdef ⊢;obtain ⟨n,hn⟩:∃ x,v.n=x:=⟨_,rfl⟩
 obtain ⟨S,hS⟩:∃ x,ae v.s=x:=⟨_,rfl⟩
 obtain ⟨l,hl⟩:∃ x,v.l.length=x:=⟨_,rfl⟩
 obtain ⟨m,hm⟩:∃ x,T.length=x:=⟨_,rfl⟩
 rw [hn,hS,hl,hm] at HHS ⊢;rw [hm] at hT;have HTL:=zh hm;have HRAW:=zh t4;have HRD:=zh t5;have HDEF:=zh hdef;have HMEM:=zh hmem;obtain ⟨q,hq⟩:∃ q,decide (ah∈inN v)=q:=⟨_,rfl⟩
 have HQ:=zh hq;rw [hq] at HHS;have hm9:m≤1466015503658:=by omega
 obtain ⟨W0,hW0⟩:∃ W0,W0=w.alloc (.cells #[.int .i64 k,.int .i64 n,.string S,.slice A0 l c0,.slice A20 m c20] 25):=⟨_,rfl⟩
 have HB0:=zh (show Below w.heap.size w W0 by rw [hW0];exact (Below.refl _ _).alloc (Nat.le_refl _) _);have HS0:=zh (show W0.heap.size=w.heap.size+1 by rw [hW0,aE]);have HR0:=zh (show W0.heap[w.heap.size]? = some (.cells #[.int .i64 k,.int .i64 n,.string S,.slice A0 l c0,.slice A20 m c20] 25 (0,0)) by rw [hW0];exact af _ _);have HW0:=zh hW0;clear hW0 hk hn hS hl hm t1 t2 t3 t4 t5 t6 hT hmem hdef hq
 -- what follows behind the loop: out = the names gathered
 by_cases hk6:k=6
 ·subst hk6;have HDF:=zh (show cR v=if ah∈inN v then bP (mem v) else qar (bP (mem v)) ah by rw [HDEF.out];simp);clear HDEF;go_enter Tryz.func12,Tryz.ntmps12;go_wp2_with fail;rw [←HW0.out];go_loopw [3,4] (fun so si wr=>∃ kk:Nat,si = .int .i64 (kk:Int)∧kk≤m∧Aside (wr.ownsRow W0.heap.size 9 1 so (bP ((mem v).take kk)).length (aD (bP ((mem v).take kk))))∧Aside (Below W0.heap.size W0 wr)) (fun _ si _=>m-(intOf si).toNat)
  case atStart=>exact ⟨0,rfl,by omega,(show World.ownsRow _ _ _ _ _ _ _ from World.ownsRow_nil _ _ _ _),(show Below _ _ _ from Below.refl _ _)⟩
  case round=>
   obtain ⟨kk,rfl,hk,hr,hb⟩:=hrel;have HR:=zh hr.out;have HE:=zh hb.out;have hrow:=(hb.out.block w.heap.size (by have:=HS0.out;omega)).trans HR0.out;have HROW:=zh hrow;clear hr hb;by_cases hlt:kk<m
   ·have t1:decide ((kk:Int)<(m:Int))=true:=zT (by omega);have t2:decide (kk<m)=true:=zT hlt;have k0:(0:Int)≤(kk:Int):=by omega
    have k1:(kk:Int)<(m:Int):=by omega
    have k2:((kk:Int)).toNat=kk:=by omega
    have hkT:kk<T.length:=by rw [HTL.out];exact hlt
    have HWB:=zh (show Below w.heap.size w wr from HB0.out.trans (HE.out.mono HB0.out.size));obtain ⟨g,o,rfl,hg,hr⟩:=HRAW.out (by rw [List.length_map];omega);have h6:=(hr kk (by rw [List.length_map];exact hkT)).keep fun j=>HWB.out.cell (p:=⟨g,j,none⟩) hg;rw [List.getElem_map] at h6;have hrd:=HRD.out _ (List.getElem_mem hkT);have HTK:=zh (show (mem v).take (kk+1)=(mem v).take kk++[(T[kk].1.nm,T[kk].2)] by
     rw [HMEM.out,List.take_succ_eq_append_getElem (by rw [List.length_map];exact hkT),List.getElem_map])
    have HPL:=zh (show (bP ((mem v).take kk)).length≤2000000000000∨True from .inr trivial);obtain ⟨y,hy⟩:∃ y,T[kk].2=y:=⟨_,rfl⟩
    obtain ⟨x,hx⟩:∃ x,T[kk].1=x:=⟨_,rfl⟩
    rw [hx,hy] at hrd HTK;rw [hx] at h6;obtain ⟨xm,xk,xn,xs,xA,xl,xc,xB,xq,xd⟩:=x;obtain ⟨n0,n1,n2,n3,n4,n5⟩:=h6;simp only at hrd HTK n0 n1 n2 n3 n4 n5;have HMY:=zh (fun (W:World) (hW:Below w.heap.size w W)=>qiz xm y _ W (hrd.below hW (Nat.le_refl _) hW.size));simp only [qbU] at HMY;have HSO:=zh (qec ((mem v).take kk) (xm,y));obtain ⟨bm,hbm⟩:∃ bm,aC xm y=bm:=⟨_,rfl⟩
    have HPN:=zh (fun (z:Value) (L:List (List UInt8)) (W:World) (h1:Rd W W.heap.size z (aD L)) (h2:L.length≤2000000000000)=>qfj z L xm W h1 h2);have HBL:=zh (show (bP ((mem v).take kk)).length≤m from Nat.le_trans (qaL _).2.1 (by rw [List.length_take];omega));rw [hbm] at HMY;simp only [hbm] at HSO;rw [←HTK.out] at HSO;generalize ae xm=X at *;generalize bP ((mem v).take kk)=O at *;obtain ⟨O2,hO2⟩:∃ O2,bP ((mem v).take (kk+1))=O2:=⟨_,rfl⟩
    have HOE:=zh hO2;rw [hO2] at HSO;clear hO2;have hgw:g<wr.heap.size:=by have:=HWB.out.size;omega
    have hbw:w.heap.size<wr.heap.size:=by have:=HS0.out;have:=HE.out.size;omega
    clear hr hrd hx hy hbm hkT;obtain ⟨⟨p0,p1,p2,p3,p4⟩, -⟩:=ag hrow;clear hrow;cases bm
    ·go_wp2_with fail;go_region_held3 (fun w'=>w'.cell? ⟨w.heap.size,4,none⟩=some (.slice (some ⟨g,o,none⟩) m c20)∧w'.cell? ⟨g,o+kk*6,none⟩=some (.string X)∧w'.cell? ⟨g,o+kk*6+1,none⟩=some (.int .i64 xk)∧w'.cell? ⟨g,o+kk*6+2,none⟩=some (.int .i64 xn)∧w'.cell? ⟨g,o+kk*6+3,none⟩=some (.string xs)∧w'.cell? ⟨g,o+kk*6+4,none⟩=some (.slice xA xl xc)∧w'.cell? ⟨g,o+kk*6+5,none⟩=some (.slice xB xq xd)) (first | go_keep | exact ⟨(hb2.cell (p:=⟨w.heap.size,4,none⟩) hbw).trans p4,(hb2.cell (p:=⟨g,o+kk*6,none⟩) hgw).trans n0,(hb2.cell (p:=⟨g,o+kk*6+1,none⟩) hgw).trans n1,(hb2.cell (p:=⟨g,o+kk*6+2,none⟩) hgw).trans n2,(hb2.cell (p:=⟨g,o+kk*6+3,none⟩) hgw).trans n3,(hb2.cell (p:=⟨g,o+kk*6+4,none⟩) hgw).trans n4,(hb2.cell (p:=⟨g,o+kk*6+5,none⟩) hgw).trans n5⟩) ((go_at_call 18;refine (HMY.out _ HWB.out.drew).mono ?_;rintro e w2 ⟨rfl,hb2⟩))
     have hb3:=(Below.refl wr.heap.size wr).drew.trans hb2;have HO2:=zh (aH HR.out hb3);have HE2:=zh (HE.out.trans (hb3.mono HE.out.size));have n0':=(hb3.cell (p:=⟨g,o+kk*6,none⟩) hgw).trans n0;have p4':=(hb3.cell (p:=⟨w.heap.size,4,none⟩) hbw).trans p4;have HCP:=zh (HPN.out u3 O w2 (Rd.of_own HO2.out) (by have:=HBL.out;omega));have HX2:=zh (show O2=qar O xm by rw [HSO.out];simp);clear hb2 hb3 p0 p1 p2 p3 p4 n0 n1 n2 n3 n4 n5;go_wp2_with fail;refine HCP.out.mono ?_;rintro e w3 ⟨z,rfl,hown,hb4⟩;have HO3:=zh (show w3.ownsRow W0.heap.size 9 1 z O2.length (aD O2) by rw [HX2.out];exact qbk hown HE2.out.size);have HE3:=zh (HE2.out.trans (hb4.mono HE2.out.size));clear hown hb4 n0' p4';go_wp2_with fail;go_roundw
     case rel=>exact ⟨kk+1,by go_num,by omega,(show World.ownsRow _ _ _ _ _ _ _ by rw [HOE.out];exact HO3.out),HE3.out⟩
     case measure=>simp [intOf];omega
    ·go_wp2_with fail;go_region_held3 (fun w'=>w'.cell? ⟨w.heap.size,4,none⟩=some (.slice (some ⟨g,o,none⟩) m c20)∧w'.cell? ⟨g,o+kk*6,none⟩=some (.string X)∧w'.cell? ⟨g,o+kk*6+1,none⟩=some (.int .i64 xk)∧w'.cell? ⟨g,o+kk*6+2,none⟩=some (.int .i64 xn)∧w'.cell? ⟨g,o+kk*6+3,none⟩=some (.string xs)∧w'.cell? ⟨g,o+kk*6+4,none⟩=some (.slice xA xl xc)∧w'.cell? ⟨g,o+kk*6+5,none⟩=some (.slice xB xq xd)) (first | go_keep | exact ⟨(hb2.cell (p:=⟨w.heap.size,4,none⟩) hbw).trans p4,(hb2.cell (p:=⟨g,o+kk*6,none⟩) hgw).trans n0,(hb2.cell (p:=⟨g,o+kk*6+1,none⟩) hgw).trans n1,(hb2.cell (p:=⟨g,o+kk*6+2,none⟩) hgw).trans n2,(hb2.cell (p:=⟨g,o+kk*6+3,none⟩) hgw).trans n3,(hb2.cell (p:=⟨g,o+kk*6+4,none⟩) hgw).trans n4,(hb2.cell (p:=⟨g,o+kk*6+5,none⟩) hgw).trans n5⟩) ((go_at_call 18;refine (HMY.out _ HWB.out.drew).mono ?_;rintro e w2 ⟨rfl,hb2⟩))
     have hb3:=(Below.refl wr.heap.size wr).drew.trans hb2;have HO2:=zh (aH HR.out hb3);have HE2:=zh (HE.out.trans (hb3.mono HE.out.size));have HX2:=zh (show O2=O by rw [HSO.out];simp);clear hb2 hb3 p0 p1 p2 p3 p4 n0 n1 n2 n3 n4 n5;go_wp2_with fail;go_roundw
     case rel=>exact ⟨kk+1,by go_num,by omega,(show World.ownsRow _ _ _ _ _ _ _ by rw [HOE.out,HX2.out];exact HO2.out),HE2.out⟩
     case measure=>simp [intOf];omega
   ·have t1:decide ((kk:Int)<(m:Int))=false:=zF (by omega);have t2:decide (kk<m)=false:=zF hlt;have HRF:=zh (show wr.ownsRow W0.heap.size 9 1 u3 (bP (mem v)).length (aD (bP (mem v))) by
     have h:=HR.out;rw [List.take_of_length_le (by rw [HMEM.out,List.length_map,HTL.out];omega)] at h;exact h)
    have HBL:=zh (show (bP (mem v)).length≤m from Nat.le_trans (qaL _).2.1 (by rw [HMEM.out,List.length_map,HTL.out];omega));have HWB:=zh (show Below w.heap.size w wr from HB0.out.trans (HE.out.mono HB0.out.size));have HCH:=zh (HHS.out _ HWB.out);have HW0S:=zh (show w.heap.size≤W0.heap.size from HB0.out.size);generalize bP (mem v)=O at *;clear hlt hk HR HE;obtain ⟨⟨p0,p1,p2,p3,p4⟩, -⟩:=ag hrow;clear hrow;go_wp2_with fail;clear p0 p1 p2 p3 p4;refine HCH.out.mono ?_;rintro e w2 ⟨rfl,hb2⟩;have HWB2:=zh (HWB.out.trans (hb2.mono HWB.out.size));have HO2:=zh (aH HRF.out hb2);clear hb2;cases q
    ·have HDB:=zh (show cR v=qar O ah by rw [HDF.out,if_neg (of_decide_eq_false HQ.out)]);have HCP:=zh (HPT.out u3 O w2 (Rd.of_own HO2.out) (by have:=HBL.out;omega));go_wp2_with fail;refine HCP.out.mono ?_;rintro e w3 ⟨z,rfl,hown,hb4⟩;have HF:=zh (show cG v w (.returned z) w3 from ⟨z,cR v,rfl,by rw [HDB.out];exact qbk hown HWB2.out.size,HBA.out.1,HBA.out.2,HWB2.out.trans (hb4.mono HWB2.out.size)⟩);clear hown hb4;go_wp2_with fail;go_ret;exact HF.out
    ·have HDB:=zh (show cR v=O by rw [HDF.out,if_pos (of_decide_eq_true HQ.out)]);have HF:=zh (show cG v w (.returned u3) w2 from ⟨u3,cR v,rfl,by rw [HDB.out];exact qbk HO2.out HW0S.out,HBA.out.1,HBA.out.2,HWB2.out⟩);go_wp2_with fail;go_ret;exact HF.out
 ·have HDF:=zh (show cR v=if ah∈inN v then [] else qar [] ah by rw [HDEF.out,if_neg hk6];rfl);clear HDEF;have d1:((k:Int)==6)=false:=beq_eq_false_iff_ne.2 hk6;have d2:decide ((k:Int)=6)=false:=zF hk6;obtain ⟨O,hO⟩:∃ O:List (List UInt8),O=[]:=⟨_,rfl⟩
  have HBL:=zh (show O.length≤m by rw [hO];exact Nat.zero_le _);have HW0S:=zh (show w.heap.size≤W0.heap.size from HB0.out.size);have HOO:=zh hO;rw [←hO] at HDF;have HCH:=zh (HHS.out _ HB0.out);clear hO;go_enter Tryz.func12,Tryz.ntmps12;go_wp2_with fail;rw [←HW0.out];go_loopw [3,4] (fun so si wr=>so = .slice none 0 0∧si = .int .i64 0∧Aside (W0=wr)) (fun _ _ _=>0)
  case atStart=>exact ⟨rfl,rfl,(show _=_ from rfl)⟩
  case round=>
   obtain ⟨rfl,rfl,hw⟩:=hrel;obtain rfl:W0=wr:=hw.out;clear hw;obtain ⟨⟨p0,p1,p2,p3,p4⟩, -⟩:=ag HR0.out;have HWB:=zh HB0.out;have HRF:=zh (show W0.ownsRow W0.heap.size 9 1 (.slice none 0 0) O.length (aD O) by rw [HOO.out];exact World.ownsRow_nil _ _ _ _);by_cases h0:0<m
   ·have t1:decide ((0:Int)<(m:Int))=true:=zT (by omega);have t2:decide (0<m)=true:=zT h0;go_wp2_with fail;clear p0 p1 p2 p3 p4;refine HCH.out.mono ?_;rintro e w2 ⟨rfl,hb2⟩;have HWB2:=zh (HWB.out.trans (hb2.mono HWB.out.size));have HO2:=zh (aH HRF.out hb2);clear hb2;cases q
    ·have HDB:=zh (show cR v=qar O ah by rw [HDF.out,if_neg (of_decide_eq_false HQ.out)]);have HCP:=zh (HPT.out (.slice none 0 0) O w2 (Rd.of_own HO2.out) (by have:=HBL.out;omega));go_wp2_with fail;refine HCP.out.mono ?_;rintro e w3 ⟨z,rfl,hown,hb4⟩;have HF:=zh (show cG v w (.returned z) w3 from ⟨z,cR v,rfl,by rw [HDB.out];exact qbk hown HWB2.out.size,HBA.out.1,HBA.out.2,HWB2.out.trans (hb4.mono HWB2.out.size)⟩);clear hown hb4;go_wp2_with fail;go_ret;exact HF.out
    ·have HDB:=zh (show cR v=O by rw [HDF.out,if_pos (of_decide_eq_true HQ.out)]);have HF:=zh (show cG v w (.returned (.slice none 0 0)) w2 from ⟨(.slice none 0 0),cR v,rfl,by rw [HDB.out];exact qbk HO2.out HW0S.out,HBA.out.1,HBA.out.2,HWB2.out⟩);go_wp2_with fail;go_ret;exact HF.out
   ·have t1:decide ((0:Int)<(m:Int))=false:=zF (by omega);have t2:decide (0<m)=false:=zF h0;go_wp2_with fail;clear p0 p1 p2 p3 p4;refine HCH.out.mono ?_;rintro e w2 ⟨rfl,hb2⟩;have HWB2:=zh (HWB.out.trans (hb2.mono HWB.out.size));have HO2:=zh (aH HRF.out hb2);clear hb2;cases q
    ·have HDB:=zh (show cR v=qar O ah by rw [HDF.out,if_neg (of_decide_eq_false HQ.out)]);have HCP:=zh (HPT.out (.slice none 0 0) O w2 (Rd.of_own HO2.out) (by have:=HBL.out;omega));go_wp2_with fail;refine HCP.out.mono ?_;rintro e w3 ⟨z,rfl,hown,hb4⟩;have HF:=zh (show cG v w (.returned z) w3 from ⟨z,cR v,rfl,by rw [HDB.out];exact qbk hown HWB2.out.size,HBA.out.1,HBA.out.2,HWB2.out.trans (hb4.mono HWB2.out.size)⟩);clear hown hb4;go_wp2_with fail;go_ret;exact HF.out
    ·have HDB:=zh (show cR v=O by rw [HDF.out,if_pos (of_decide_eq_true HQ.out)]);have HF:=zh (show cG v w (.returned (.slice none 0 0)) w2 from ⟨(.slice none 0 0),cR v,rfl,by rw [HDB.out];exact qbk HO2.out HW0S.out,HBA.out.1,HBA.out.2,HWB2.out⟩);go_wp2_with fail;go_ret;exact HF.out
