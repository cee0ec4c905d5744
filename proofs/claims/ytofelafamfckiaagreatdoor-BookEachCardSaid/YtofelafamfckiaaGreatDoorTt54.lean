/- Merged: BkW3. -/
import Derived.Test.YtofelafamfckiaaGreatDoorTt53
import Derived.Test.YtofelafamfckiaaGreatDoorTt50
set_option maxRecDepth 100000
set_option maxHeartbeats 1000000
set_option linter.unusedSimpArgs false
namespace Go.Proofs.YtofelafamfckiaaGreatDoor
namespace Bk
open Go.Proofs Go.RowKit Utf Sc Re Tr Po
open Pa (qeX)
open Cd (mem fst cq)
theorem qma (v:V) (cv:List Value) (N:ByteArray) (y:V) (cy:List Value) (w:World) (hv:RdA w 0 w.heap.size v cv) (zv:szA reachBytes v) (hN:N.size≤reachBytes) (hy:RdA w 0 w.heap.size y cy) (zy:szA reachBytes y) (hT:Tab w) :
  Calls Tryz.prog 5 #[.agg cv.toArray,.string N,.agg cy.toArray] w fun e w'=>e = .returned (.bool true)∧Below w.heap.size w w':=by
 have HTT:=zh hT;have rv:szA 140737488355328 v:=Em.ct (by decide) _ zv;have zv':szA 140737488351232 v:=zv;have sv:szA 4611686018427387904 v:=Em.ct (by decide) _ zv;have HFEW:=zh (fun (W:World) (hW:Below w.heap.size w W)=>qjA v cv 1500 (by omega) W sv (hv.below hW (Nat.le_refl _) hW.size));have HCK:=zh (fun (W:World) (hW:Below w.heap.size w W)=>cE v cv W (hv.below hW (Nat.le_refl _) hW.size) rv);obtain ⟨nm,hnm⟩:∃ nm,N=ae nm:=⟨N.data.toList,rfl⟩
 have sy:szA 4611686018427387904 y:=Em.ct (by decide) _ zy;have HFEY:=zh (fun (W:World) (hW:Below w.heap.size w W)=>qjA y cy 500 (by omega) W sy (hy.below hW (Nat.le_refl _) hW.size));have hnl:nm.length≤140737488351232:=by have:=hN;rw [hnm,aC] at this;exact this
 have HWI0:=zh (fun (hk:v.k=6) (W:World) (hW:Below w.heap.size w W)=>qjb nm v y cv cy W hk (hv.below hW (Nat.le_refl _) hW.size) (hy.below hW (Nat.le_refl _) hW.size) zv' zy hnl);have HMY:=zh (fun (W:World) (hW:Below w.heap.size w W)=>qit nm y cy W (hy.below hW (Nat.le_refl _) hW.size));rw [←hnm] at HWI0 HMY;have HSN:=zh hnm;obtain ⟨A1,c1,A2,c2,T,ev,t1,t2,t3,t4,t5,t6⟩:=cq hv;have HRAW0:=zh t4;obtain ⟨B1,e1,B2,e2,ey, -⟩:=hy.cells;subst ev ey;rw [t1] at HFEW HCK HWI0 ⊢;have hM9:v.ms.length*96≤140737488351232:=((bE _ v).1 zv').2.2.2.2.1;have hTL:(T.map Prod.fst).length=v.ms.length:=by rw [List.length_map];exact t1
 clear hT rv hv hy zv zy zv' sv sy hnm hN hnl t1 t2 t3 t4 t5 t6;obtain ⟨k,hk⟩:∃ q,v.k=q:=⟨_,rfl⟩
 obtain ⟨n,hn⟩:∃ q,v.n=q:=⟨_,rfl⟩
 obtain ⟨S,hS⟩:∃ q,ae v.s=q:=⟨_,rfl⟩
 obtain ⟨l1,hl1⟩:∃ q,v.l.length=q:=⟨_,rfl⟩
 obtain ⟨m1,hm1⟩:∃ q,v.ms.length=q:=⟨_,rfl⟩
 rw [hk,hn,hS,hl1,hm1] at HFEW HCK HWI0 ⊢;rw [hm1] at hM9 hTL;have HM9:=zh hM9;have HTL:=zh hTL;have HKK:=zh hk;clear hk hn hS hl1 hm1 hM9 hTL;obtain ⟨yk,hk⟩:∃ q,y.k=q:=⟨_,rfl⟩
 obtain ⟨yn,hn⟩:∃ q,y.n=q:=⟨_,rfl⟩
 obtain ⟨yS,hS⟩:∃ q,ae y.s=q:=⟨_,rfl⟩
 obtain ⟨yl,hl1⟩:∃ q,y.l.length=q:=⟨_,rfl⟩
 obtain ⟨ym,hm1⟩:∃ q,y.ms.length=q:=⟨_,rfl⟩
 rw [hk,hn,hS,hl1,hm1] at HFEY HWI0 HMY ⊢;clear hk hn hS hl1 hm1;obtain ⟨W0,hW0⟩:∃ W0,W0=((w.alloc (.cells #[.int .i64 k,.int .i64 n,.string S,.slice A1 l1 c1,.slice A2 m1 c2] 25)).alloc (.cells #[.int .i64 yk,.int .i64 yn,.string yS,.slice B1 yl e1,.slice B2 ym e2] 25)):=⟨_,rfl⟩
 have HBW0:=zh (show Below w.heap.size w W0 by rw [hW0];exact ((Below.refl _ _).alloc (Nat.le_refl _) _).alloc (by simp) _);have hs0:W0.heap.size=w.heap.size+2:=by rw [hW0,aD,aD]
 have RW0_0:=zh (show W0.heap[w.heap.size]? = some (.cells #[.int .i64 k,.int .i64 n,.string S,.slice A1 l1 c1,.slice A2 m1 c2] 25 (0,0)) by rw [hW0];exact bq ((show (w.alloc (.cells #[.int .i64 k,.int .i64 n,.string S,.slice A1 l1 c1,.slice A2 m1 c2] 25)).heap[w.heap.size]? = some (.cells #[.int .i64 k,.int .i64 n,.string S,.slice A1 l1 c1,.slice A2 m1 c2] 25 (0,0)) from by rw [show w.heap.size=w.heap.size by simp];exact aj _ _)) _);have LW0_0:=zh (show w.heap.size<W0.heap.size by omega);have RW0_1:=zh (show W0.heap[w.heap.size+1]? = some (.cells #[.int .i64 yk,.int .i64 yn,.string yS,.slice B1 yl e1,.slice B2 ym e2] 25 (0,0)) by rw [hW0];exact (show ((w.alloc (.cells #[.int .i64 k,.int .i64 n,.string S,.slice A1 l1 c1,.slice A2 m1 c2] 25)).alloc (.cells #[.int .i64 yk,.int .i64 yn,.string yS,.slice B1 yl e1,.slice B2 ym e2] 25)).heap[w.heap.size+1]? = some (.cells #[.int .i64 yk,.int .i64 yn,.string yS,.slice B1 yl e1,.slice B2 ym e2] 25 (0,0)) from by rw [show w.heap.size+1=(w.alloc (.cells #[.int .i64 k,.int .i64 n,.string S,.slice A1 l1 c1,.slice A2 m1 c2] 25)).heap.size by simp];exact aj _ _));have LW0_1:=zh (show w.heap.size+1<W0.heap.size by omega);have HW0:=zh hW0;clear hW0 hs0;go_enter Tryz.func5,Tryz.ntmps5;have q0:=RW0_0.out;rw [HW0.out] at q0;obtain ⟨⟨p0_0,p0_1,p0_2,p0_3,p0_4⟩, -⟩:=af q0;clear q0;have q1:=RW0_1.out;rw [HW0.out] at q1;obtain ⟨⟨p1_0,p1_1,p1_2,p1_3,p1_4⟩, -⟩:=af q1;clear q1;go_wp2_with fail;rw [←HW0.out];clear p0_0 p0_1 p0_2 p0_3 p0_4 p1_0 p1_1 p1_2 p1_3 p1_4;refine (cN _ (HTT.out.below (RowKit.Hid.out (by assumption)))).mono ?_;rintro e w1 ⟨rfl,hb⟩;have Rw1_0:=zR hb LW0_0 RW0_0;have Lw1_0:=zL hb LW0_0;have Rw1_1:=zR hb LW0_1 RW0_1;have Lw1_1:=zL hb LW0_1;have HBw1:=zB hb HBW0;clear hb;obtain ⟨⟨p0_0,p0_1,p0_2,p0_3,p0_4⟩, -⟩:=af Rw1_0.out;obtain ⟨⟨p1_0,p1_1,p1_2,p1_3,p1_4⟩, -⟩:=af Rw1_1.out;go_wp2_with fail;clear p0_0 p0_1 p0_2 p0_3 p0_4 p1_0 p1_1 p1_2 p1_3 p1_4;refine (HFEW.out _ HBw1.out).mono ?_;rintro e w2 ⟨⟨b,rfl, -⟩,hb⟩;have Rw2_0:=zR hb Lw1_0 Rw1_0;have Lw2_0:=zL hb Lw1_0;have Rw2_1:=zR hb Lw1_1 Rw1_1;have Lw2_1:=zL hb Lw1_1;have HBw2:=zB hb HBw1;clear hb;cases b
 ·obtain ⟨⟨p0_0,p0_1,p0_2,p0_3,p0_4⟩, -⟩:=af Rw2_0.out;obtain ⟨⟨p1_0,p1_1,p1_2,p1_3,p1_4⟩, -⟩:=af Rw2_1.out;go_wp2_with fail;clear p0_0 p0_1 p0_2 p0_3 p0_4 p1_0 p1_1 p1_2 p1_3 p1_4;refine (cN _ (HTT.out.below (RowKit.Hid.out (by assumption)))).mono ?_;rintro e w3 ⟨rfl,hb⟩;have Rw3_0:=zR hb Lw2_0 Rw2_0;have Lw3_0:=zL hb Lw2_0;have Rw3_1:=zR hb Lw2_1 Rw2_1;have Lw3_1:=zL hb Lw2_1;have HBw3:=zB hb HBw2;clear hb;go_wp2;go_ret;exact ⟨rfl,HBw3.out⟩
 ·obtain ⟨⟨p0_0,p0_1,p0_2,p0_3,p0_4⟩, -⟩:=af Rw2_0.out;obtain ⟨⟨p1_0,p1_1,p1_2,p1_3,p1_4⟩, -⟩:=af Rw2_1.out;go_wp2_with fail;clear p0_0 p0_1 p0_2 p0_3 p0_4 p1_0 p1_1 p1_2 p1_3 p1_4;refine (HFEY.out _ HBw2.out).mono ?_;rintro e w3 ⟨⟨b,rfl, -⟩,hb⟩;have Rw3_0:=zR hb Lw2_0 Rw2_0;have Lw3_0:=zL hb Lw2_0;have Rw3_1:=zR hb Lw2_1 Rw2_1;have Lw3_1:=zL hb Lw2_1;have HBw3:=zB hb HBw2;clear hb;cases b
  ·obtain ⟨⟨p0_0,p0_1,p0_2,p0_3,p0_4⟩, -⟩:=af Rw3_0.out;obtain ⟨⟨p1_0,p1_1,p1_2,p1_3,p1_4⟩, -⟩:=af Rw3_1.out;go_wp2_with fail;clear p0_0 p0_1 p0_2 p0_3 p0_4 p1_0 p1_1 p1_2 p1_3 p1_4;refine (cN _ (HTT.out.below (RowKit.Hid.out (by assumption)))).mono ?_;rintro e w4 ⟨rfl,hb⟩;have Rw4_0:=zR hb Lw3_0 Rw3_0;have Lw4_0:=zL hb Lw3_0;have Rw4_1:=zR hb Lw3_1 Rw3_1;have Lw4_1:=zL hb Lw3_1;have HBw4:=zB hb HBw3;clear hb;go_wp2;go_ret;exact ⟨rfl,HBw4.out⟩
  ·obtain ⟨⟨p0_0,p0_1,p0_2,p0_3,p0_4⟩, -⟩:=af Rw3_0.out;obtain ⟨⟨p1_0,p1_1,p1_2,p1_3,p1_4⟩, -⟩:=af Rw3_1.out;go_wp2_with fail;clear p0_0 p0_1 p0_2 p0_3 p0_4 p1_0 p1_1 p1_2 p1_3 p1_4;refine (HCK.out _ HBw3.out).mono ?_;rintro e w4 ⟨x1,ps1,rfl,hown,hris,hmem,hb⟩;obtain ⟨Ak1,cc1,rfl,hx⟩:=Rd.of_own hown;have HO1:=zh (show Rd w4 w4.heap.size (.slice Ak1 (aG ps1).length cc1) (aG ps1) from ⟨Ak1,cc1,rfl,hx⟩);have HS1:=zh hris;have HM1:=zh hmem;rw [ba] at HO1 ⊢;obtain ⟨nn1,hn1⟩:∃ q,ps1.length=q:=⟨_,rfl⟩
   have HN1:=zh hn1;rw [hn1] at HO1 ⊢;clear hown hris hmem hx hn1;have Rw4_0:=zR hb Lw3_0 Rw3_0;have Lw4_0:=zL hb Lw3_0;have Rw4_1:=zR hb Lw3_1 Rw3_1;have Lw4_1:=zL hb Lw3_1;have HBw4:=zB hb HBw3;clear hb;by_cases h0:nn1=0
   ·subst h0;have HGD:=zh (show ∀ n,bZ v n=false from fun n=>by
     have e:ps1=[]:=List.eq_nil_of_length_eq_zero HN1.out;have:=HM1.out n;rw [e] at this;cases hb:bZ v n with
     | false=>rfl
     | true=>exact absurd (this.2 hb) (by simp))
    have HWI:=zh (fun (W:World) (hW:Below w.heap.size w W)=>HWI0.out (by rw [←HKK.out];exact ((cr v).1 HGD.out).1) W hW);have HRAW:=zh (HRAW0.out.keep (w':=w4) (fun p hp=>HBw4.out.cell (p:=p) hp));obtain ⟨⟨p0_0,p0_1,p0_2,p0_3,p0_4⟩, -⟩:=af Rw4_0.out;obtain ⟨⟨p1_0,p1_1,p1_2,p1_3,p1_4⟩, -⟩:=af Rw4_1.out;go_wp2_with fail;clear p0_0 p0_1 p0_2 p0_3 p0_4 p1_0 p1_1 p1_2 p1_3 p1_4;go_loopw [7,8] (fun sn si wr=>∃ c ii:Nat,sn = .int .i64 c∧si = .int .i64 ii∧c≤ii∧ii≤m1∧Aside (w4=wr)) (fun _ si _=>m1-(RowKit.intOf si).toNat)
    case atStart=>exact ⟨0,0,rfl,rfl,by omega,by omega,(show _=_ from rfl)⟩
    case round=>
     obtain ⟨c,ii,rfl,rfl,hci,hii,hw⟩:=hrel;obtain rfl:w4=wr:=hw.out;clear hw;by_cases hlt:ii<m1
     ·have t1:decide ((ii:Int)<(m1:Int))=true:=zT (by omega);have t2:decide (ii<m1)=true:=zT hlt;have k0:(0:Int)≤(ii:Int):=by omega
      have k1:(ii:Int)<(m1:Int):=by omega
      have k2:((ii:Int)).toNat=ii:=by omega
      have hm9:=HM9.out;obtain ⟨g,o,rfl,hg,hr⟩:=HRAW.out (by rw [HTL.out];omega);obtain ⟨c0, -⟩:=hr ii (by rw [HTL.out];exact hlt);generalize ae ((T.map Prod.fst)[ii]'(by rw [HTL.out];exact hlt)).nm=Y at *;clear hr;obtain ⟨⟨p0_0,p0_1,p0_2,p0_3,p0_4⟩, -⟩:=af Rw4_0.out;by_cases hx:Y.toList=N.toList
      ·have u1:(Y.toList==N.toList)=true:=beq_iff_eq.2 hx;go_wp2_with fail;go_roundw
       case rel=>exact ⟨c+1,ii+1,by go_num,by go_num,by omega,by omega,(show True from trivial)⟩
       case measure=>simp [RowKit.intOf];omega
      ·have u1:(Y.toList==N.toList)=false:=beq_eq_false_iff_ne.2 hx;go_wp2_with fail;go_roundw
       case rel=>exact ⟨c,ii+1,rfl,by go_num,by omega,by omega,(show True from trivial)⟩
       case measure=>simp [RowKit.intOf];omega
     ·have t1:decide ((ii:Int)<(m1:Int))=false:=zF (by omega);have t2:decide (ii<m1)=false:=zF hlt;by_cases hc:1<c
      ·have d1:decide ((1:Int)<(c:Int))=true:=zT (by omega);have d2:decide (1<c)=true:=zT hc;have d3:decide ((c:Int)>1)=true:=zT (by omega);obtain ⟨⟨p0_0,p0_1,p0_2,p0_3,p0_4⟩, -⟩:=af Rw4_0.out;obtain ⟨⟨p1_0,p1_1,p1_2,p1_3,p1_4⟩, -⟩:=af Rw4_1.out;go_wp2;go_ret;exact ⟨rfl,HBw4.out⟩
      ·have d1:decide ((1:Int)<(c:Int))=false:=zF (by omega);have d2:decide (1<c)=false:=zF hc;have d3:decide ((c:Int)>1)=false:=zF (by omega);clear hci hii hlt hc;obtain ⟨⟨p0_0,p0_1,p0_2,p0_3,p0_4⟩, -⟩:=af Rw4_0.out;obtain ⟨⟨p1_0,p1_1,p1_2,p1_3,p1_4⟩, -⟩:=af Rw4_1.out;go_wp2_with fail;clear p0_0 p0_1 p0_2 p0_3 p0_4 p1_0 p1_1 p1_2 p1_3 p1_4;refine (HWI.out _ HBw4.out).mono ?_;rintro e w5 ⟨⟨A3,n3,c3,x,rfl,hrd,hsx,hfc⟩,hb⟩;have Rw5_0:=zR hb Lw4_0 Rw4_0;have Lw5_0:=zL hb Lw4_0;have Rw5_1:=zR hb Lw4_1 Rw4_1;have Lw5_1:=zL hb Lw4_1;have HBw5:=zB hb HBw4;have HRX:=zh hrd;have HSX:=zh hsx;have HFC:=zh hfc;clear hrd hsx hfc t1 t2 d1 d2 d3;clear hb;have Fw5_x:=zh (Below.refl w5.heap.size w5);obtain ⟨⟨p0_0,p0_1,p0_2,p0_3,p0_4⟩, -⟩:=af Rw5_0.out;obtain ⟨⟨p1_0,p1_1,p1_2,p1_3,p1_4⟩, -⟩:=af Rw5_1.out;go_wp2_with fail;clear p0_0 p0_1 p0_2 p0_3 p0_4 p1_0 p1_1 p1_2 p1_3 p1_4;refine (cE x _ w5 HRX.out HSX.out).mono ?_;rintro e w6 ⟨x2,ps2,rfl,hown,hris,hmem,hb⟩;obtain ⟨Ak2,cc2,rfl,hx⟩:=Rd.of_own hown;have HO2:=zh (show Rd w6 w6.heap.size (.slice Ak2 (aG ps2).length cc2) (aG ps2) from ⟨Ak2,cc2,rfl,hx⟩);have HS2:=zh hris;have HM2:=zh hmem;rw [ba] at HO2 ⊢;obtain ⟨nn2,hn2⟩:∃ q,ps2.length=q:=⟨_,rfl⟩
       have HN2:=zh hn2;rw [hn2] at HO2 ⊢;clear hown hris hmem hx hn2;have Rw6_0:=zR hb Lw5_0 Rw5_0;have Lw6_0:=zL hb Lw5_0;have Rw6_1:=zR hb Lw5_1 Rw5_1;have Lw6_1:=zL hb Lw5_1;have Fw6_x:=zB hb Fw5_x;have HBw6:=zB hb HBw5;clear hb;have Fw6_l:=zh (Below.refl w6.heap.size w6);obtain ⟨⟨p0_0,p0_1,p0_2,p0_3,p0_4⟩, -⟩:=af Rw6_0.out;obtain ⟨⟨p1_0,p1_1,p1_2,p1_3,p1_4⟩, -⟩:=af Rw6_1.out;go_wp2_with fail;clear p0_0 p0_1 p0_2 p0_3 p0_4 p1_0 p1_1 p1_2 p1_3 p1_4;refine (HMY.out _ HBw6.out).mono ?_;rintro e w7 ⟨rfl,hb⟩;have Rw7_0:=zR hb Lw6_0 Rw6_0;have Lw7_0:=zL hb Lw6_0;have Rw7_1:=zR hb Lw6_1 Rw6_1;have Lw7_1:=zL hb Lw6_1;have Fw7_x:=zB hb Fw6_x;have Fw7_l:=zB hb Fw6_l;have HBw7:=zB hb HBw6;clear hb;cases hmy:ay nm y with
       | true=>
        have hz0:nn2=0:=by
         have e:ps2=[]:=List.eq_nil_iff_forall_not_mem.2 (fun n hn=>by have:=(HM2.out n).1 hn;rw [qi0 HGD.out hmy HFC.out.1 HFC.out.2.1 HFC.out.2.2.2 n] at this;cases this);rw [←HN2.out,e];rfl
        subst hz0;clear hmy;obtain ⟨⟨p0_0,p0_1,p0_2,p0_3,p0_4⟩, -⟩:=af Rw7_0.out;obtain ⟨⟨p1_0,p1_1,p1_2,p1_3,p1_4⟩, -⟩:=af Rw7_1.out;go_wp2;go_ret;exact ⟨rfl,HBw7.out⟩
       | false=>
        have hone:ps2=[nm]:=Cd.qiW (HS2.out.imp (fun {a b} h e=>by subst e;rw [qcu.irrefl] at h;cases h)) (fun n=>by rw [HM2.out n];exact qjK HGD.out hmy HFC.out.1 HFC.out.2.1 HFC.out.2.2.1 HFC.out.2.2.2 n);clear hmy;have HO2:=zh ((HO2.out.below' Fw7_l.out (Nat.le_refl _)).more Fw7_l.out.size);obtain ⟨Zw7,hZw7⟩:∃ Zw7,Zw7=w7.alloc (.cells #[.string N] 9):=⟨_,rfl⟩
        have hb:Below w7.heap.size w7 Zw7:=by rw [hZw7];exact (Below.refl _ _).alloc (Nat.le_refl _) _
        have hrz:Zw7.heap[w7.heap.size]? = some (.cells #[.string N] 9 (0,0)):=by rw [hZw7];exact aj _ _
        have hsz:Zw7.heap.size=w7.heap.size+1:=by rw [hZw7,aD]
        have HQ:=zh (qbd (.slice Ak2 nn2 cc2) (.slice (some ⟨w7.heap.size,0,none⟩) 1 1) ps2 [nm] Zw7 ((HO2.out.below' hb (Nat.le_refl _)).more (by omega)) ⟨some ⟨w7.heap.size,0,none⟩,1,rfl,fun _=>⟨_,rfl,by show w7.heap.size<Zw7.heap.size;omega,fun j u hu=>by
         match j,hu with
         | 0,hu=>
          injection hu with hu
          rw [Addr.add_lit,cell_of_row _ _ _ _ _ _ hrz,←hu];rw [HSN.out];rfl⟩⟩ (by rw [hone];exact (by decide:1≤4611686018427387904)))
        have RZw7_0:=zR hb Lw7_0 Rw7_0;have LZw7_0:=zL hb Lw7_0;have RZw7_1:=zR hb Lw7_1 Rw7_1;have LZw7_1:=zL hb Lw7_1;have FZw7_x:=zB hb Fw7_x;have FZw7_l:=zB hb Fw7_l;have HBZw7:=zB hb HBw7;have HZw7:=zh hZw7;clear hZw7 hb hrz hsz;obtain ⟨⟨p0_0,p0_1,p0_2,p0_3,p0_4⟩, -⟩:=af Rw7_0.out;obtain ⟨⟨p1_0,p1_1,p1_2,p1_3,p1_4⟩, -⟩:=af Rw7_1.out;go_wp2_with fail;rw [←HZw7.out];clear p0_0 p0_1 p0_2 p0_3 p0_4 p1_0 p1_1 p1_2 p1_3 p1_4;refine HQ.out.mono ?_;rintro e w8 ⟨⟨b,rfl,hq⟩,hb⟩;obtain rfl:b=true:=hq.2 hone;clear hq HQ;have Rw8_0:=zR hb LZw7_0 RZw7_0;have Lw8_0:=zL hb LZw7_0;have Rw8_1:=zR hb LZw7_1 RZw7_1;have Lw8_1:=zL hb LZw7_1;have Fw8_x:=zB hb FZw7_x;have Fw8_l:=zB hb FZw7_l;have HBw8:=zB hb HBZw7;clear hb;clear hone;go_wp2;go_ret;exact ⟨rfl,HBw8.out⟩
   ·have s1:decide ((0:Int)<(nn1:Int))=true:=zT (by omega);have s2:decide (0<nn1)=true:=zT (by omega);have s3:decide ((nn1:Int)>0)=true:=zT (by omega);have s4:0<nn1:=by omega
    obtain ⟨⟨p0_0,p0_1,p0_2,p0_3,p0_4⟩, -⟩:=af Rw4_0.out;obtain ⟨⟨p1_0,p1_1,p1_2,p1_3,p1_4⟩, -⟩:=af Rw4_1.out;go_wp2_with fail;clear p0_0 p0_1 p0_2 p0_3 p0_4 p1_0 p1_1 p1_2 p1_3 p1_4;refine (cN _ (HTT.out.below (RowKit.Hid.out (by assumption)))).mono ?_;rintro e w5 ⟨rfl,hb⟩;have Rw5_0:=zR hb Lw4_0 Rw4_0;have Lw5_0:=zL hb Lw4_0;have Rw5_1:=zR hb Lw4_1 Rw4_1;have Lw5_1:=zL hb Lw4_1;have HBw5:=zB hb HBw4;clear hb;go_wp2;go_ret;exact ⟨rfl,HBw5.out⟩
