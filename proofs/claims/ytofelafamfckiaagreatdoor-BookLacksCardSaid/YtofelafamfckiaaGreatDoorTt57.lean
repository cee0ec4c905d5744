/- Merged: BkW4. -/
import Derived.Test.YtofelafamfckiaaGreatDoorTt56
import Derived.Test.YtofelafamfckiaaGreatDoorTt52
set_option maxRecDepth 100000
set_option maxHeartbeats 1000000
set_option linter.unusedSimpArgs false
namespace Go.Proofs.YtofelafamfckiaaGreatDoor
namespace Bk
open Go.Proofs Go.RowKit Utf Sc Re Tr Po
open Pa (qdN)
open Cd (mem fst)
theorem qiN {x:V} (h:fst (mem x) bP=none):bV (aL x) bP=qdo:=by
 show orV x bP qdo=qdo;unfold orV;rw [h];rfl
theorem qjx {x:V} (h:fst (mem x) bN=none):bV (aL x) bN=qds:=by
 show orV x bN qds=qds;unfold orV;rw [h];rfl
theorem qht {x:V} (h:fst (mem x) be=none):bV (aL x) be=qcx:=by
 show orV x be qcx=qcx;unfold orV;rw [h];rfl
theorem qgm {B:Nat} {v y:V} {n:List UInt8} (h:szA B v) (hy:szA B y):szA B (orV v n y):=by
 unfold orV;cases hf:fst (mem v) n with
 | none=>exact hy
 | some x=>exact aR ((bt _ v).1 h).2.2.2.2.2.2.2 (Cd.qgS (qic hf))
theorem qhg {v:V} {B:Nat} (hB:400≤B) (h:szA B v):szA B (aL v):=by
 have z1:szA B qcx:=by rw [qcx,szA];exact ⟨by decide,by decide,Nat.zero_le _,Nat.zero_le _,Nat.zero_le _,(fun _ h=>by cases h),(by rw [aK];trivial),(by rw [aK];trivial)⟩
 have z2:szA B qds:=by rw [qds,szA];exact ⟨by decide,by decide,Nat.zero_le _,Nat.zero_le _,Nat.zero_le _,(fun _ h=>by cases h),(by rw [aK];trivial),(by rw [aK];trivial)⟩
 have z3:szA B qdo:=by rw [qdo,szA];exact ⟨by decide,by decide,Nat.zero_le _,Nat.zero_le _,Nat.zero_le _,(fun _ h=>by cases h),(by rw [aK];trivial),(by rw [aK];trivial)⟩
 have z4:szA B V0:=by rw [V0,szA];exact ⟨by decide,by decide,Nat.zero_le _,Nat.zero_le _,Nat.zero_le _,(fun _ h=>by cases h),(by rw [aK];trivial),(by rw [aK];trivial)⟩
 rw [bt];refine ⟨show (Lit.int .i64 6).wf=true by decide,show (Lit.int .i64 0).wf=true by decide,Nat.zero_le _,Nat.zero_le _,show (4:Nat)*96≤_ by omega,?_,(by show aK _ [];rw [aK];trivial),?_⟩
 ·intro nm hn;have:∀ q∈bM,q.length≤100:=by decide
  exact Nat.le_trans (this nm hn) (by omega)
 ·show aK _ (cp v);unfold cp;rw [aK,aK,aK,aK,aK];exact ⟨qgm h z1,qgm h z2,qgm h z4,qgm h z3,trivial⟩
theorem qbF {v:V} (h:szA 4611686018427387904 v):szA 4611686018427387904 (aL v):=qhg (by decide) h
theorem ql7 (v:V) (cv:List Value) (N:ByteArray) (w:World) (hv:RdA w 0 w.heap.size v cv) (zv:szA reachBytes v) (_hN:N.size≤reachBytes) (hT:Tab w) :
  Calls Tryz.prog 6 #[.agg cv.toArray,.string N] w fun e w'=>e = .returned (.bool true)∧Below w.heap.size w w':=by
 have HTT:=zh hT;have rv:szA 140737488355328 v:=Em.bS (by decide) _ zv;have zv':szA 140737488351232 v:=zv;have sv:szA 4611686018427387904 v:=Em.bS (by decide) _ zv;have HFEW:=zh (fun (W:World) (hW:Below w.heap.size w W)=>qlh v cv 1500 (by omega) W sv (hv.below hW (Nat.le_refl _) hW.size));have HCK:=zh (fun (W:World) (hW:Below w.heap.size w W)=>bF v cv W (hv.below hW (Nat.le_refl _) hW.size) rv);obtain ⟨nm,hnm⟩:∃ nm,N=ae nm:=⟨N.data.toList,rfl⟩
 have HLS0:=zh (fun (hk:v.k=6) (W:World) (hW:Below w.heap.size w W)=>qij nm v cv W hk (hv.below hW (Nat.le_refl _) hW.size) zv');rw [←hnm] at HLS0;have HNL:=zh (show N.toList=nm by rw [hnm,aA]);have HSN:=zh hnm.symm;obtain ⟨A1,c1,A2,c2,ev, -⟩:=hv.cells;subst ev;clear hT rv hv zv zv' sv hnm;obtain ⟨k,hk⟩:∃ q,v.k=q:=⟨_,rfl⟩
 obtain ⟨n,hn⟩:∃ q,v.n=q:=⟨_,rfl⟩
 obtain ⟨S,hS⟩:∃ q,ae v.s=q:=⟨_,rfl⟩
 obtain ⟨l1,hl1⟩:∃ q,v.l.length=q:=⟨_,rfl⟩
 obtain ⟨m1,hm1⟩:∃ q,v.ms.length=q:=⟨_,rfl⟩
 rw [hk,hn,hS,hl1,hm1] at HFEW HCK HLS0 ⊢;have HKK:=zh hk;clear hk hn hS hl1 hm1;obtain ⟨W0,hW0⟩:∃ W0,W0=(w.alloc (.cells #[.int .i64 k,.int .i64 n,.string S,.slice A1 l1 c1,.slice A2 m1 c2] 25)):=⟨_,rfl⟩
 have HBW0:=zh (show Below w.heap.size w W0 by rw [hW0];exact (Below.refl _ _).alloc (Nat.le_refl _) _);have hs0:W0.heap.size=w.heap.size+1:=by rw [hW0,aC]
 have RW0_0:=zh (show W0.heap[w.heap.size]? = some (.cells #[.int .i64 k,.int .i64 n,.string S,.slice A1 l1 c1,.slice A2 m1 c2] 25 (0,0)) by rw [hW0];exact (show (w.alloc (.cells #[.int .i64 k,.int .i64 n,.string S,.slice A1 l1 c1,.slice A2 m1 c2] 25)).heap[w.heap.size]? = some (.cells #[.int .i64 k,.int .i64 n,.string S,.slice A1 l1 c1,.slice A2 m1 c2] 25 (0,0)) from by rw [show w.heap.size=w.heap.size by simp];exact ai _ _));have LW0_0:=zh (show w.heap.size<W0.heap.size by omega);have HW0:=zh hW0;clear hW0 hs0;go_enter Tryz.func6,Tryz.ntmps6;have q0:=RW0_0.out;rw [HW0.out] at q0;obtain ⟨⟨p0_0,p0_1,p0_2,p0_3,p0_4⟩, -⟩:=af q0;clear q0;go_wp2_with fail;rw [←HW0.out];clear p0_0 p0_1 p0_2 p0_3 p0_4;refine (qaw _ (HTT.out.below (RowKit.Hid.out (by assumption)))).mono ?_;rintro e w1 ⟨rfl,hb⟩;have Rw1_0:=zR hb LW0_0 RW0_0;have Lw1_0:=zL hb LW0_0;have HBw1:=zB hb HBW0;clear hb;obtain ⟨⟨p0_0,p0_1,p0_2,p0_3,p0_4⟩, -⟩:=af Rw1_0.out;go_wp2_with fail;clear p0_0 p0_1 p0_2 p0_3 p0_4;refine (HFEW.out _ HBw1.out).mono ?_;rintro e w2 ⟨⟨b,rfl, -⟩,hb⟩;have Rw2_0:=zR hb Lw1_0 Rw1_0;have Lw2_0:=zL hb Lw1_0;have HBw2:=zB hb HBw1;clear hb;cases b
 ·obtain ⟨⟨p0_0,p0_1,p0_2,p0_3,p0_4⟩, -⟩:=af Rw2_0.out;go_wp2_with fail;clear p0_0 p0_1 p0_2 p0_3 p0_4;refine (qaw _ (HTT.out.below (RowKit.Hid.out (by assumption)))).mono ?_;rintro e w3 ⟨rfl,hb⟩;have Rw3_0:=zR hb Lw2_0 Rw2_0;have Lw3_0:=zL hb Lw2_0;have HBw3:=zB hb HBw2;clear hb;go_wp2;go_ret;exact ⟨rfl,HBw3.out⟩
 ·obtain ⟨⟨p0_0,p0_1,p0_2,p0_3,p0_4⟩, -⟩:=af Rw2_0.out;go_wp2_with fail;clear p0_0 p0_1 p0_2 p0_3 p0_4;refine (HCK.out _ HBw2.out).mono ?_;rintro e w3 ⟨x1,ps1,rfl,hown,hris,hmem,hb⟩;obtain ⟨Ak1,cc1,rfl,hx⟩:=Rd.of_own hown;have HO1:=zh (show Rd w3 w3.heap.size (.slice Ak1 (aF ps1).length cc1) (aF ps1) from ⟨Ak1,cc1,rfl,hx⟩);have HS1:=zh hris;have HM1:=zh hmem;rw [aX] at HO1 ⊢;obtain ⟨nn1,hn1⟩:∃ q,ps1.length=q:=⟨_,rfl⟩
  have HN1:=zh hn1;rw [hn1] at HO1 ⊢;clear hown hris hmem hx hn1;have Rw3_0:=zR hb Lw2_0 Rw2_0;have Lw3_0:=zL hb Lw2_0;have HBw3:=zB hb HBw2;clear hb;by_cases h0:nn1=0
  ·subst h0;have HGD:=zh (show ∀ n,bL v n=false from fun n=>by
    have e:ps1=[]:=List.eq_nil_of_length_eq_zero HN1.out;have:=HM1.out n;rw [e] at this;cases hb:bL v n with
    | false=>rfl
    | true=>exact absurd (this.2 hb) (by simp))
   have HLS:=zh (fun (W:World) (hW:Below w.heap.size w W)=>HLS0.out (by rw [←HKK.out];exact ((cG v).1 HGD.out).1) W hW);obtain ⟨⟨p0_0,p0_1,p0_2,p0_3,p0_4⟩, -⟩:=af Rw3_0.out;go_wp2_with fail;clear p0_0 p0_1 p0_2 p0_3 p0_4;refine (HLS.out _ HBw3.out).mono ?_;rintro e w4 ⟨⟨A3,n3,c3,x,rfl,hrd,hsx,hfc⟩,hb⟩;have Rw4_0:=zR hb Lw3_0 Rw3_0;have Lw4_0:=zL hb Lw3_0;have HBw4:=zB hb HBw3;have HRX:=zh hrd;have HSX:=zh hsx;have HFC:=zh hfc;clear hrd hsx hfc;clear hb;have Fw4_x:=zh (Below.refl w4.heap.size w4);obtain ⟨W4,hW4⟩:∃ W4,W4=w4.alloc (.cells #[.int .i64 6,.int .i64 0,.string ⟨#[]⟩,.slice none 0 0,.slice A3 n3 c3] 25):=⟨_,rfl⟩
   have hb:Below w4.heap.size w4 W4:=by rw [hW4];exact (Below.refl _ _).alloc (Nat.le_refl _) _
   have RW4_0:=zR hb Lw4_0 Rw4_0;have LW4_0:=zL hb Lw4_0;have FW4_x:=zB hb Fw4_x;have HBW4:=zB hb HBw4;have RW4_1:=zh (show W4.heap[w4.heap.size]? = some (.cells #[.int .i64 6,.int .i64 0,.string ⟨#[]⟩,.slice none 0 0,.slice A3 n3 c3] 25 (0,0)) by rw [hW4];exact ai _ _);have LW4_1:=zh (show w4.heap.size<W4.heap.size by rw [hW4,aC];exact Nat.lt_succ_self _);have HW4:=zh hW4;clear hW4 hb;by_cases e0:nm=ay
   ·have HE:=zh e0;have unName1:(N.toList==[110,97,109,101])=true:=by rw [HNL.out,HE.out];rfl
    have unName2:(N.toList != [110,97,109,101])=false:=by rw [HNL.out,HE.out];rfl
    have unName3:N.toList=[110,97,109,101]:=by rw [HNL.out,HE.out];rfl
    have unOrd1:(N.toList==[115,111,114,116,79,114,100,101,114])=false:=by rw [HNL.out];exact beq_eq_false_iff_ne.2 (by rw [HE.out];decide)
    have unOrd2:(N.toList != [115,111,114,116,79,114,100,101,114])=true:=by rw [HNL.out];exact bne_iff_ne.2 (by rw [HE.out];decide)
    have unOrd3:¬N.toList=[115,111,114,116,79,114,100,101,114]:=by rw [HNL.out];exact (by rw [HE.out];decide)
    have unSub1:(N.toList==[105,115,83,117,98,115,99,114,105,98,101,100])=false:=by rw [HNL.out];exact beq_eq_false_iff_ne.2 (by rw [HE.out];decide)
    have unSub2:(N.toList != [105,115,83,117,98,115,99,114,105,98,101,100])=true:=by rw [HNL.out];exact bne_iff_ne.2 (by rw [HE.out];decide)
    have unSub3:¬N.toList=[105,115,83,117,98,115,99,114,105,98,101,100]:=by rw [HNL.out];exact (by rw [HE.out];decide)
    have unDesc1:(N.toList==[100,101,115,99,114,105,112,116,105,111,110])=false:=by rw [HNL.out];exact beq_eq_false_iff_ne.2 (by rw [HE.out];decide)
    have unDesc2:(N.toList != [100,101,115,99,114,105,112,116,105,111,110])=true:=by rw [HNL.out];exact bne_iff_ne.2 (by rw [HE.out];decide)
    have unDesc3:¬N.toList=[100,101,115,99,114,105,112,116,105,111,110]:=by rw [HNL.out];exact (by rw [HE.out];decide)
    have q0:=RW4_0.out;rw [HW4.out] at q0;obtain ⟨⟨p0_0,p0_1,p0_2,p0_3,p0_4⟩, -⟩:=af q0;clear q0;have q1:=RW4_1.out;rw [HW4.out] at q1;obtain ⟨⟨p1_0,p1_1,p1_2,p1_3,p1_4⟩, -⟩:=af q1;clear q1;go_wp2_with fail;rw [←HW4.out];clear p0_0 p0_1 p0_2 p0_3 p0_4 p1_0 p1_1 p1_2 p1_3 p1_4;refine (bF x _ W4 (HRX.out.below FW4_x.out (Nat.le_refl _) FW4_x.out.size) HSX.out).mono ?_;rintro e w5 ⟨x2,ps2,rfl,hown,hris,hmem,hb⟩;obtain ⟨Ak2,cc2,rfl,hx⟩:=Rd.of_own hown;have HO2:=zh (show Rd w5 w5.heap.size (.slice Ak2 (aF ps2).length cc2) (aF ps2) from ⟨Ak2,cc2,rfl,hx⟩);have HS2:=zh hris;have HM2:=zh hmem;rw [aX] at HO2 ⊢;obtain ⟨nn2,hn2⟩:∃ q,ps2.length=q:=⟨_,rfl⟩
    have HN2:=zh hn2;rw [hn2] at HO2 ⊢;clear hown hris hmem hx hn2;have Rw5_0:=zR hb LW4_0 RW4_0;have Lw5_0:=zL hb LW4_0;have Rw5_1:=zR hb LW4_1 RW4_1;have Lw5_1:=zL hb LW4_1;have Fw5_x:=zB hb FW4_x;have HBw5:=zB hb HBW4;clear hb;have hone:ps2=[ay]:=Cd.qh9 (HS2.out.imp (fun {a b} h e=>by subst e;rw [qcn.irrefl] at h;cases h)) (fun n=>by rw [HM2.out n];exact qdJ HGD.out HFC.out.1 (by rw [←HE.out];exact HFC.out.2.1) (by rw [←HE.out];exact HFC.out.2.2.1) n);obtain ⟨Zw5,hZw5⟩:∃ Zw5,Zw5=w5.alloc (.cells #[.string ⟨#[110,97,109,101]⟩] 9):=⟨_,rfl⟩
    have hb:Below w5.heap.size w5 Zw5:=by rw [hZw5];exact (Below.refl _ _).alloc (Nat.le_refl _) _
    have hrz:Zw5.heap[w5.heap.size]? = some (.cells #[.string ⟨#[110,97,109,101]⟩] 9 (0,0)):=by rw [hZw5];exact ai _ _
    have hsz:Zw5.heap.size=w5.heap.size+1:=by rw [hZw5,aC]
    have HQ:=zh (qbc (.slice Ak2 nn2 cc2) (.slice (some ⟨w5.heap.size,0,none⟩) 1 1) ps2 [ay] Zw5 ((HO2.out.below' hb (Nat.le_refl _)).more (by omega)) ⟨some ⟨w5.heap.size,0,none⟩,1,rfl,fun _=>⟨_,rfl,by show w5.heap.size<Zw5.heap.size;omega,fun j u hu=>by
     match j,hu with
     | 0,hu=>
      injection hu with hu
      rw [Addr.add_lit,cell_of_row _ _ _ _ _ _ hrz,←hu];rfl⟩⟩ (by rw [hone];exact (by decide:1≤4611686018427387904)))
    have RZw5_0:=zR hb Lw5_0 Rw5_0;have LZw5_0:=zL hb Lw5_0;have RZw5_1:=zR hb Lw5_1 Rw5_1;have LZw5_1:=zL hb Lw5_1;have FZw5_x:=zB hb Fw5_x;have HBZw5:=zB hb HBw5;have HZw5:=zh hZw5;clear hZw5 hb hrz hsz;obtain ⟨⟨p0_0,p0_1,p0_2,p0_3,p0_4⟩, -⟩:=af Rw5_0.out;obtain ⟨⟨p1_0,p1_1,p1_2,p1_3,p1_4⟩, -⟩:=af Rw5_1.out;go_wp2_with fail;rw [←HZw5.out];clear p0_0 p0_1 p0_2 p0_3 p0_4 p1_0 p1_1 p1_2 p1_3 p1_4;refine HQ.out.mono ?_;rintro e w6 ⟨⟨b,rfl,hq⟩,hb⟩;obtain rfl:b=true:=hq.2 hone;clear hq HQ;have Rw6_0:=zR hb LZw5_0 RZw5_0;have Lw6_0:=zL hb LZw5_0;have Rw6_1:=zR hb LZw5_1 RZw5_1;have Lw6_1:=zL hb LZw5_1;have Fw6_x:=zB hb FZw5_x;have HBw6:=zB hb HBZw5;clear hb;clear hone;obtain ⟨⟨p0_0,p0_1,p0_2,p0_3,p0_4⟩, -⟩:=af Rw6_0.out;obtain ⟨⟨p1_0,p1_1,p1_2,p1_3,p1_4⟩, -⟩:=af Rw6_1.out;go_wp2_with fail;clear p0_0 p0_1 p0_2 p0_3 p0_4 p1_0 p1_1 p1_2 p1_3 p1_4;refine (b8 x _ w6 (HTT.out.below (RowKit.Hid.out (by assumption))) (HRX.out.below Fw6_x.out (Nat.le_refl _) Fw6_x.out.size) HSX.out).mono ?_;rintro e w7 ⟨hwh,hb⟩;have Rw7_0:=zR hb Lw6_0 Rw6_0;have Lw7_0:=zL hb Lw6_0;have Rw7_1:=zR hb Lw6_1 Rw6_1;have Lw7_1:=zL hb Lw6_1;have Fw7_x:=zB hb Fw6_x;have HBw7:=zB hb HBw6;have he:e = .returned (.agg #[.int .i64 0,.int .i64 0,.string ⟨#[]⟩,.slice none 0 0,.slice none 0 0]):=by
     rcases hwh with ⟨h, -⟩ | ⟨-,h⟩
     ·have:=(qdJ HGD.out HFC.out.1 (by rw [←HE.out];exact HFC.out.2.1) (by rw [←HE.out];exact HFC.out.2.2.1) ay).2 rfl;rw [h ay] at this;cases this
     ·exact h
    subst he;clear hwh;clear hb;obtain ⟨⟨p0_0,p0_1,p0_2,p0_3,p0_4⟩, -⟩:=af Rw7_0.out;obtain ⟨⟨p1_0,p1_1,p1_2,p1_3,p1_4⟩, -⟩:=af Rw7_1.out;go_wp2_with fail;clear p0_0 p0_1 p0_2 p0_3 p0_4 p1_0 p1_1 p1_2 p1_3 p1_4;refine (qdN _).mono ?_;rintro e w8 ⟨rfl,hb⟩;have Rw8_0:=zR hb Lw7_0 Rw7_0;have Lw8_0:=zL hb Lw7_0;have Rw8_1:=zR hb Lw7_1 Rw7_1;have Lw8_1:=zL hb Lw7_1;have Fw8_x:=zB hb Fw7_x;have HBw8:=zB hb HBw7;clear hb;go_wp2;go_ret;exact ⟨rfl,HBw8.out⟩
   by_cases e1:nm=bP
   ·have HE:=zh e1;have unName1:(N.toList==[110,97,109,101])=false:=by rw [HNL.out];exact beq_eq_false_iff_ne.2 (by rw [HE.out];decide)
    have unName2:(N.toList != [110,97,109,101])=true:=by rw [HNL.out];exact bne_iff_ne.2 (by rw [HE.out];decide)
    have unName3:¬N.toList=[110,97,109,101]:=by rw [HNL.out];exact (by rw [HE.out];decide)
    have unOrd1:(N.toList==[115,111,114,116,79,114,100,101,114])=true:=by rw [HNL.out,HE.out];rfl
    have unOrd2:(N.toList != [115,111,114,116,79,114,100,101,114])=false:=by rw [HNL.out,HE.out];rfl
    have unOrd3:N.toList=[115,111,114,116,79,114,100,101,114]:=by rw [HNL.out,HE.out];rfl
    have unSub1:(N.toList==[105,115,83,117,98,115,99,114,105,98,101,100])=false:=by rw [HNL.out];exact beq_eq_false_iff_ne.2 (by rw [HE.out];decide)
    have unSub2:(N.toList != [105,115,83,117,98,115,99,114,105,98,101,100])=true:=by rw [HNL.out];exact bne_iff_ne.2 (by rw [HE.out];decide)
    have unSub3:¬N.toList=[105,115,83,117,98,115,99,114,105,98,101,100]:=by rw [HNL.out];exact (by rw [HE.out];decide)
    have unDesc1:(N.toList==[100,101,115,99,114,105,112,116,105,111,110])=false:=by rw [HNL.out];exact beq_eq_false_iff_ne.2 (by rw [HE.out];decide)
    have unDesc2:(N.toList != [100,101,115,99,114,105,112,116,105,111,110])=true:=by rw [HNL.out];exact bne_iff_ne.2 (by rw [HE.out];decide)
    have unDesc3:¬N.toList=[100,101,115,99,114,105,112,116,105,111,110]:=by rw [HNL.out];exact (by rw [HE.out];decide)
    have HGX:=zh (show ∀ n,bL x n=false from qaW HGD.out e0 HFC.out.1 HFC.out.2.1 HFC.out.2.2.1);clear e0 e1;have q0:=RW4_0.out;rw [HW4.out] at q0;obtain ⟨⟨p0_0,p0_1,p0_2,p0_3,p0_4⟩, -⟩:=af q0;clear q0;have q1:=RW4_1.out;rw [HW4.out] at q1;obtain ⟨⟨p1_0,p1_1,p1_2,p1_3,p1_4⟩, -⟩:=af q1;clear q1;go_wp2_with fail;rw [←HW4.out];clear p0_0 p0_1 p0_2 p0_3 p0_4 p1_0 p1_1 p1_2 p1_3 p1_4;refine (b8 x _ W4 (HTT.out.below (RowKit.Hid.out (by assumption))) (HRX.out.below FW4_x.out (Nat.le_refl _) FW4_x.out.size) HSX.out).mono ?_;rintro e w5 ⟨hwh,hb⟩;have Rw5_0:=zR hb LW4_0 RW4_0;have Lw5_0:=zL hb LW4_0;have Rw5_1:=zR hb LW4_1 RW4_1;have Lw5_1:=zL hb LW4_1;have Fw5_x:=zB hb FW4_x;have HBw5:=zB hb HBW4;obtain ⟨g,gc,he,hrw⟩:∃ g c,e = .returned (.agg #[.int .i64 6,.int .i64 0,.string ⟨#[]⟩,.slice none 0 0,.slice (some ⟨g,0,none⟩) 4 c])∧RdA w5 0 w5.heap.size (aL x) [.int .i64 6,.int .i64 0,.string ⟨#[]⟩,.slice none 0 0,.slice (some ⟨g,0,none⟩) 4 c]:=by
     rcases hwh with ⟨-,g,c,h1, -, -, -,h5⟩ | ⟨h, -⟩
     ·exact ⟨g,c,h1,h5⟩
     ·exact absurd HGX.out h
    subst he;have HRW:=zh hrw;clear hwh hrw;clear hb;have HGT:=zh (qco (aL x) _ nm w5 HRW.out (qbF (Em.bS (by decide) _ HSX.out)));rw [HSN.out] at HGT;obtain ⟨⟨p0_0,p0_1,p0_2,p0_3,p0_4⟩, -⟩:=af Rw5_0.out;obtain ⟨⟨p1_0,p1_1,p1_2,p1_3,p1_4⟩, -⟩:=af Rw5_1.out;go_wp2_with fail;clear p0_0 p0_1 p0_2 p0_3 p0_4 p1_0 p1_1 p1_2 p1_3 p1_4;refine (HGT.out).mono ?_;rintro e w6 ⟨⟨cs,rfl,hgr⟩,hb⟩;have Rw6_0:=zR hb Lw5_0 Rw5_0;have Lw6_0:=zL hb Lw5_0;have Rw6_1:=zR hb Lw5_1 Rw5_1;have Lw6_1:=zL hb Lw5_1;have Fw6_x:=zB hb Fw5_x;have HBw6:=zB hb HBw5;rw [HE.out,qiN (by rw [HFC.out.2.1,HE.out];exact qcR _ _)] at hgr;obtain ⟨xk,xn,xS,xA,xl,xc,xB,xm,xd,rfl,rfl,rfl⟩:∃ (xk xn:Int) (xS:ByteArray) (xA:Option Addr) (xl xc:Nat) (xB:Option Addr) (xm xd:Nat),cs=[.int .i64 xk,.int .i64 xn,.string xS,.slice xA xl xc,.slice xB xm xd]∧xk=3∧xn=0:=by
     obtain ⟨A,c,A2,c2,ec, -⟩:=hgr.cells;exact ⟨_,_,_,A,_,c,A2,_,c2,ec,rfl,rfl⟩
    clear hgr;have hin:decide (nm∈inN (aL x))=true:=by rw [HE.out];exact zT (by show bP∈bM;unfold bM;simp)
    rw [hin];clear hin;clear hb;obtain ⟨W6,hW6⟩:∃ W6,W6=w6.alloc (.cells #[.int .i64 3,.int .i64 0,.string xS,.slice xA xl xc,.slice xB xm xd] 25):=⟨_,rfl⟩
    have hb:Below w6.heap.size w6 W6:=by rw [hW6];exact (Below.refl _ _).alloc (Nat.le_refl _) _
    have RW6_0:=zR hb Lw6_0 Rw6_0;have LW6_0:=zL hb Lw6_0;have RW6_1:=zR hb Lw6_1 Rw6_1;have LW6_1:=zL hb Lw6_1;have FW6_x:=zB hb Fw6_x;have HBW6:=zB hb HBw6;have RW6_2:=zh (show W6.heap[w6.heap.size]? = some (.cells #[.int .i64 3,.int .i64 0,.string xS,.slice xA xl xc,.slice xB xm xd] 25 (0,0)) by rw [hW6];exact ai _ _);have LW6_2:=zh (show w6.heap.size<W6.heap.size by rw [hW6,aC];exact Nat.lt_succ_self _);have HW6:=zh hW6;clear hW6 hb;have q0:=RW6_0.out;rw [HW6.out] at q0;obtain ⟨⟨p0_0,p0_1,p0_2,p0_3,p0_4⟩, -⟩:=af q0;clear q0;have q1:=RW6_1.out;rw [HW6.out] at q1;obtain ⟨⟨p1_0,p1_1,p1_2,p1_3,p1_4⟩, -⟩:=af q1;clear q1;have q2:=RW6_2.out;rw [HW6.out] at q2;obtain ⟨⟨p2_0,p2_1,p2_2,p2_3,p2_4⟩, -⟩:=af q2;clear q2;go_wp2;go_ret;exact ⟨rfl,by rw [←HW6.out];exact HBW6.out⟩
   by_cases e2:nm=bN
   ·have HE:=zh e2;have unName1:(N.toList==[110,97,109,101])=false:=by rw [HNL.out];exact beq_eq_false_iff_ne.2 (by rw [HE.out];decide)
    have unName2:(N.toList != [110,97,109,101])=true:=by rw [HNL.out];exact bne_iff_ne.2 (by rw [HE.out];decide)
    have unName3:¬N.toList=[110,97,109,101]:=by rw [HNL.out];exact (by rw [HE.out];decide)
    have unOrd1:(N.toList==[115,111,114,116,79,114,100,101,114])=false:=by rw [HNL.out];exact beq_eq_false_iff_ne.2 (by rw [HE.out];decide)
    have unOrd2:(N.toList != [115,111,114,116,79,114,100,101,114])=true:=by rw [HNL.out];exact bne_iff_ne.2 (by rw [HE.out];decide)
    have unOrd3:¬N.toList=[115,111,114,116,79,114,100,101,114]:=by rw [HNL.out];exact (by rw [HE.out];decide)
    have unSub1:(N.toList==[105,115,83,117,98,115,99,114,105,98,101,100])=true:=by rw [HNL.out,HE.out];rfl
    have unSub2:(N.toList != [105,115,83,117,98,115,99,114,105,98,101,100])=false:=by rw [HNL.out,HE.out];rfl
    have unSub3:N.toList=[105,115,83,117,98,115,99,114,105,98,101,100]:=by rw [HNL.out,HE.out];rfl
    have unDesc1:(N.toList==[100,101,115,99,114,105,112,116,105,111,110])=false:=by rw [HNL.out];exact beq_eq_false_iff_ne.2 (by rw [HE.out];decide)
    have unDesc2:(N.toList != [100,101,115,99,114,105,112,116,105,111,110])=true:=by rw [HNL.out];exact bne_iff_ne.2 (by rw [HE.out];decide)
    have unDesc3:¬N.toList=[100,101,115,99,114,105,112,116,105,111,110]:=by rw [HNL.out];exact (by rw [HE.out];decide)
    have HGX:=zh (show ∀ n,bL x n=false from qaW HGD.out e0 HFC.out.1 HFC.out.2.1 HFC.out.2.2.1);clear e0 e1 e2;have q0:=RW4_0.out;rw [HW4.out] at q0;obtain ⟨⟨p0_0,p0_1,p0_2,p0_3,p0_4⟩, -⟩:=af q0;clear q0;have q1:=RW4_1.out;rw [HW4.out] at q1;obtain ⟨⟨p1_0,p1_1,p1_2,p1_3,p1_4⟩, -⟩:=af q1;clear q1;go_wp2_with fail;rw [←HW4.out];clear p0_0 p0_1 p0_2 p0_3 p0_4 p1_0 p1_1 p1_2 p1_3 p1_4;refine (b8 x _ W4 (HTT.out.below (RowKit.Hid.out (by assumption))) (HRX.out.below FW4_x.out (Nat.le_refl _) FW4_x.out.size) HSX.out).mono ?_;rintro e w5 ⟨hwh,hb⟩;have Rw5_0:=zR hb LW4_0 RW4_0;have Lw5_0:=zL hb LW4_0;have Rw5_1:=zR hb LW4_1 RW4_1;have Lw5_1:=zL hb LW4_1;have Fw5_x:=zB hb FW4_x;have HBw5:=zB hb HBW4;obtain ⟨g,gc,he,hrw⟩:∃ g c,e = .returned (.agg #[.int .i64 6,.int .i64 0,.string ⟨#[]⟩,.slice none 0 0,.slice (some ⟨g,0,none⟩) 4 c])∧RdA w5 0 w5.heap.size (aL x) [.int .i64 6,.int .i64 0,.string ⟨#[]⟩,.slice none 0 0,.slice (some ⟨g,0,none⟩) 4 c]:=by
     rcases hwh with ⟨-,g,c,h1, -, -, -,h5⟩ | ⟨h, -⟩
     ·exact ⟨g,c,h1,h5⟩
     ·exact absurd HGX.out h
    subst he;have HRW:=zh hrw;clear hwh hrw;clear hb;have HGT:=zh (qco (aL x) _ nm w5 HRW.out (qbF (Em.bS (by decide) _ HSX.out)));rw [HSN.out] at HGT;obtain ⟨⟨p0_0,p0_1,p0_2,p0_3,p0_4⟩, -⟩:=af Rw5_0.out;obtain ⟨⟨p1_0,p1_1,p1_2,p1_3,p1_4⟩, -⟩:=af Rw5_1.out;go_wp2_with fail;clear p0_0 p0_1 p0_2 p0_3 p0_4 p1_0 p1_1 p1_2 p1_3 p1_4;refine (HGT.out).mono ?_;rintro e w6 ⟨⟨cs,rfl,hgr⟩,hb⟩;have Rw6_0:=zR hb Lw5_0 Rw5_0;have Lw6_0:=zL hb Lw5_0;have Rw6_1:=zR hb Lw5_1 Rw5_1;have Lw6_1:=zL hb Lw5_1;have Fw6_x:=zB hb Fw5_x;have HBw6:=zB hb HBw5;rw [HE.out,qjx (by rw [HFC.out.2.1,HE.out];exact qcR _ _)] at hgr;obtain ⟨xk,xn,xS,xA,xl,xc,xB,xm,xd,rfl,rfl,rfl⟩:∃ (xk xn:Int) (xS:ByteArray) (xA:Option Addr) (xl xc:Nat) (xB:Option Addr) (xm xd:Nat),cs=[.int .i64 xk,.int .i64 xn,.string xS,.slice xA xl xc,.slice xB xm xd]∧xk=2∧xn=1:=by
     obtain ⟨A,c,A2,c2,ec, -⟩:=hgr.cells;exact ⟨_,_,_,A,_,c,A2,_,c2,ec,rfl,rfl⟩
    clear hgr;have hin:decide (nm∈inN (aL x))=true:=by rw [HE.out];exact zT (by show bN∈bM;unfold bM;simp)
    rw [hin];clear hin;clear hb;obtain ⟨W6,hW6⟩:∃ W6,W6=w6.alloc (.cells #[.int .i64 2,.int .i64 1,.string xS,.slice xA xl xc,.slice xB xm xd] 25):=⟨_,rfl⟩
    have hb:Below w6.heap.size w6 W6:=by rw [hW6];exact (Below.refl _ _).alloc (Nat.le_refl _) _
    have RW6_0:=zR hb Lw6_0 Rw6_0;have LW6_0:=zL hb Lw6_0;have RW6_1:=zR hb Lw6_1 Rw6_1;have LW6_1:=zL hb Lw6_1;have FW6_x:=zB hb Fw6_x;have HBW6:=zB hb HBw6;have RW6_2:=zh (show W6.heap[w6.heap.size]? = some (.cells #[.int .i64 2,.int .i64 1,.string xS,.slice xA xl xc,.slice xB xm xd] 25 (0,0)) by rw [hW6];exact ai _ _);have LW6_2:=zh (show w6.heap.size<W6.heap.size by rw [hW6,aC];exact Nat.lt_succ_self _);have HW6:=zh hW6;clear hW6 hb;have q0:=RW6_0.out;rw [HW6.out] at q0;obtain ⟨⟨p0_0,p0_1,p0_2,p0_3,p0_4⟩, -⟩:=af q0;clear q0;have q1:=RW6_1.out;rw [HW6.out] at q1;obtain ⟨⟨p1_0,p1_1,p1_2,p1_3,p1_4⟩, -⟩:=af q1;clear q1;have q2:=RW6_2.out;rw [HW6.out] at q2;obtain ⟨⟨p2_0,p2_1,p2_2,p2_3,p2_4⟩, -⟩:=af q2;clear q2;go_wp2;go_ret;exact ⟨rfl,by rw [←HW6.out];exact HBW6.out⟩
   by_cases e3:nm=be
   ·have HE:=zh e3;have unName1:(N.toList==[110,97,109,101])=false:=by rw [HNL.out];exact beq_eq_false_iff_ne.2 (by rw [HE.out];decide)
    have unName2:(N.toList != [110,97,109,101])=true:=by rw [HNL.out];exact bne_iff_ne.2 (by rw [HE.out];decide)
    have unName3:¬N.toList=[110,97,109,101]:=by rw [HNL.out];exact (by rw [HE.out];decide)
    have unOrd1:(N.toList==[115,111,114,116,79,114,100,101,114])=false:=by rw [HNL.out];exact beq_eq_false_iff_ne.2 (by rw [HE.out];decide)
    have unOrd2:(N.toList != [115,111,114,116,79,114,100,101,114])=true:=by rw [HNL.out];exact bne_iff_ne.2 (by rw [HE.out];decide)
    have unOrd3:¬N.toList=[115,111,114,116,79,114,100,101,114]:=by rw [HNL.out];exact (by rw [HE.out];decide)
    have unSub1:(N.toList==[105,115,83,117,98,115,99,114,105,98,101,100])=false:=by rw [HNL.out];exact beq_eq_false_iff_ne.2 (by rw [HE.out];decide)
    have unSub2:(N.toList != [105,115,83,117,98,115,99,114,105,98,101,100])=true:=by rw [HNL.out];exact bne_iff_ne.2 (by rw [HE.out];decide)
    have unSub3:¬N.toList=[105,115,83,117,98,115,99,114,105,98,101,100]:=by rw [HNL.out];exact (by rw [HE.out];decide)
    have unDesc1:(N.toList==[100,101,115,99,114,105,112,116,105,111,110])=true:=by rw [HNL.out,HE.out];rfl
    have unDesc2:(N.toList != [100,101,115,99,114,105,112,116,105,111,110])=false:=by rw [HNL.out,HE.out];rfl
    have unDesc3:N.toList=[100,101,115,99,114,105,112,116,105,111,110]:=by rw [HNL.out,HE.out];rfl
    have HGX:=zh (show ∀ n,bL x n=false from qaW HGD.out e0 HFC.out.1 HFC.out.2.1 HFC.out.2.2.1);clear e0 e1 e2 e3;have q0:=RW4_0.out;rw [HW4.out] at q0;obtain ⟨⟨p0_0,p0_1,p0_2,p0_3,p0_4⟩, -⟩:=af q0;clear q0;have q1:=RW4_1.out;rw [HW4.out] at q1;obtain ⟨⟨p1_0,p1_1,p1_2,p1_3,p1_4⟩, -⟩:=af q1;clear q1;go_wp2_with fail;rw [←HW4.out];clear p0_0 p0_1 p0_2 p0_3 p0_4 p1_0 p1_1 p1_2 p1_3 p1_4;refine (b8 x _ W4 (HTT.out.below (RowKit.Hid.out (by assumption))) (HRX.out.below FW4_x.out (Nat.le_refl _) FW4_x.out.size) HSX.out).mono ?_;rintro e w5 ⟨hwh,hb⟩;have Rw5_0:=zR hb LW4_0 RW4_0;have Lw5_0:=zL hb LW4_0;have Rw5_1:=zR hb LW4_1 RW4_1;have Lw5_1:=zL hb LW4_1;have Fw5_x:=zB hb FW4_x;have HBw5:=zB hb HBW4;obtain ⟨g,gc,he,hrw⟩:∃ g c,e = .returned (.agg #[.int .i64 6,.int .i64 0,.string ⟨#[]⟩,.slice none 0 0,.slice (some ⟨g,0,none⟩) 4 c])∧RdA w5 0 w5.heap.size (aL x) [.int .i64 6,.int .i64 0,.string ⟨#[]⟩,.slice none 0 0,.slice (some ⟨g,0,none⟩) 4 c]:=by
     rcases hwh with ⟨-,g,c,h1, -, -, -,h5⟩ | ⟨h, -⟩
     ·exact ⟨g,c,h1,h5⟩
     ·exact absurd HGX.out h
    subst he;have HRW:=zh hrw;clear hwh hrw;clear hb;have HGT:=zh (qco (aL x) _ nm w5 HRW.out (qbF (Em.bS (by decide) _ HSX.out)));rw [HSN.out] at HGT;obtain ⟨⟨p0_0,p0_1,p0_2,p0_3,p0_4⟩, -⟩:=af Rw5_0.out;obtain ⟨⟨p1_0,p1_1,p1_2,p1_3,p1_4⟩, -⟩:=af Rw5_1.out;go_wp2_with fail;clear p0_0 p0_1 p0_2 p0_3 p0_4 p1_0 p1_1 p1_2 p1_3 p1_4;refine (HGT.out).mono ?_;rintro e w6 ⟨⟨cs,rfl,hgr⟩,hb⟩;have Rw6_0:=zR hb Lw5_0 Rw5_0;have Lw6_0:=zL hb Lw5_0;have Rw6_1:=zR hb Lw5_1 Rw5_1;have Lw6_1:=zL hb Lw5_1;have Fw6_x:=zB hb Fw5_x;have HBw6:=zB hb HBw5;rw [HE.out,qht (by rw [HFC.out.2.1,HE.out];exact qcR _ _)] at hgr;obtain ⟨xk,xn,xS,xA,xl,xc,xB,xm,xd,rfl,rfl,rfl⟩:∃ (xk xn:Int) (xS:ByteArray) (xA:Option Addr) (xl xc:Nat) (xB:Option Addr) (xm xd:Nat),cs=[.int .i64 xk,.int .i64 xn,.string xS,.slice xA xl xc,.slice xB xm xd]∧xk=1∧xn=0:=by
     obtain ⟨A,c,A2,c2,ec, -⟩:=hgr.cells;exact ⟨_,_,_,A,_,c,A2,_,c2,ec,rfl,rfl⟩
    clear hgr;have hin:decide (nm∈inN (aL x))=true:=by rw [HE.out];exact zT (by show be∈bM;unfold bM;simp)
    rw [hin];clear hin;clear hb;obtain ⟨W6,hW6⟩:∃ W6,W6=w6.alloc (.cells #[.int .i64 1,.int .i64 0,.string xS,.slice xA xl xc,.slice xB xm xd] 25):=⟨_,rfl⟩
    have hb:Below w6.heap.size w6 W6:=by rw [hW6];exact (Below.refl _ _).alloc (Nat.le_refl _) _
    have RW6_0:=zR hb Lw6_0 Rw6_0;have LW6_0:=zL hb Lw6_0;have RW6_1:=zR hb Lw6_1 Rw6_1;have LW6_1:=zL hb Lw6_1;have FW6_x:=zB hb Fw6_x;have HBW6:=zB hb HBw6;have RW6_2:=zh (show W6.heap[w6.heap.size]? = some (.cells #[.int .i64 1,.int .i64 0,.string xS,.slice xA xl xc,.slice xB xm xd] 25 (0,0)) by rw [hW6];exact ai _ _);have LW6_2:=zh (show w6.heap.size<W6.heap.size by rw [hW6,aC];exact Nat.lt_succ_self _);have HW6:=zh hW6;clear hW6 hb;have q0:=RW6_0.out;rw [HW6.out] at q0;obtain ⟨⟨p0_0,p0_1,p0_2,p0_3,p0_4⟩, -⟩:=af q0;clear q0;have q1:=RW6_1.out;rw [HW6.out] at q1;obtain ⟨⟨p1_0,p1_1,p1_2,p1_3,p1_4⟩, -⟩:=af q1;clear q1;have q2:=RW6_2.out;rw [HW6.out] at q2;obtain ⟨⟨p2_0,p2_1,p2_2,p2_3,p2_4⟩, -⟩:=af q2;clear q2;go_wp2_with fail;rw [←HW6.out];clear p0_0 p0_1 p0_2 p0_3 p0_4 p1_0 p1_1 p1_2 p1_3 p1_4 p2_0 p2_1 p2_2 p2_3 p2_4;refine (bF x _ W6 (HRX.out.below FW6_x.out (Nat.le_refl _) FW6_x.out.size) HSX.out).mono ?_;rintro e w7 ⟨x2,ps2,rfl,hown,hris,hmem,hb⟩;obtain ⟨Ak2,cc2,rfl,hx⟩:=Rd.of_own hown;have HO2:=zh (show Rd w7 w7.heap.size (.slice Ak2 (aF ps2).length cc2) (aF ps2) from ⟨Ak2,cc2,rfl,hx⟩);have HS2:=zh hris;have HM2:=zh hmem;rw [aX] at HO2 ⊢;obtain ⟨nn2,hn2⟩:∃ q,ps2.length=q:=⟨_,rfl⟩
    have HN2:=zh hn2;rw [hn2] at HO2 ⊢;clear hown hris hmem hx hn2;have Rw7_0:=zR hb LW6_0 RW6_0;have Lw7_0:=zL hb LW6_0;have Rw7_1:=zR hb LW6_1 RW6_1;have Lw7_1:=zL hb LW6_1;have Rw7_2:=zR hb LW6_2 RW6_2;have Lw7_2:=zL hb LW6_2;have Fw7_x:=zB hb FW6_x;have HBw7:=zB hb HBW6;clear hb;have hz0:nn2=0:=by
     have e:ps2=[]:=List.eq_nil_iff_forall_not_mem.2 (fun n hn=>by have:=(HM2.out n).1 hn;rw [HGX.out n] at this;cases this);rw [←HN2.out,e];rfl
    subst hz0;obtain ⟨⟨p0_0,p0_1,p0_2,p0_3,p0_4⟩, -⟩:=af Rw7_0.out;obtain ⟨⟨p1_0,p1_1,p1_2,p1_3,p1_4⟩, -⟩:=af Rw7_1.out;obtain ⟨⟨p2_0,p2_1,p2_2,p2_3,p2_4⟩, -⟩:=af Rw7_2.out;go_wp2;go_ret;exact ⟨rfl,HBw7.out⟩
   have he0:=e0;have he1:=e1;have he2:=e2;have he3:=e3;have unName1:(N.toList==[110,97,109,101])=false:=by rw [HNL.out];exact beq_eq_false_iff_ne.2 (e0)
   have unName2:(N.toList != [110,97,109,101])=true:=by rw [HNL.out];exact bne_iff_ne.2 (e0)
   have unName3:¬N.toList=[110,97,109,101]:=by rw [HNL.out];exact (e0)
   have unOrd1:(N.toList==[115,111,114,116,79,114,100,101,114])=false:=by rw [HNL.out];exact beq_eq_false_iff_ne.2 (e1)
   have unOrd2:(N.toList != [115,111,114,116,79,114,100,101,114])=true:=by rw [HNL.out];exact bne_iff_ne.2 (e1)
   have unOrd3:¬N.toList=[115,111,114,116,79,114,100,101,114]:=by rw [HNL.out];exact (e1)
   have unSub1:(N.toList==[105,115,83,117,98,115,99,114,105,98,101,100])=false:=by rw [HNL.out];exact beq_eq_false_iff_ne.2 (e2)
   have unSub2:(N.toList != [105,115,83,117,98,115,99,114,105,98,101,100])=true:=by rw [HNL.out];exact bne_iff_ne.2 (e2)
   have unSub3:¬N.toList=[105,115,83,117,98,115,99,114,105,98,101,100]:=by rw [HNL.out];exact (e2)
   have unDesc1:(N.toList==[100,101,115,99,114,105,112,116,105,111,110])=false:=by rw [HNL.out];exact beq_eq_false_iff_ne.2 (e3)
   have unDesc2:(N.toList != [100,101,115,99,114,105,112,116,105,111,110])=true:=by rw [HNL.out];exact bne_iff_ne.2 (e3)
   have unDesc3:¬N.toList=[100,101,115,99,114,105,112,116,105,111,110]:=by rw [HNL.out];exact (e3)
   have HGX:=zh (show ∀ n,bL x n=false from qaW HGD.out e0 HFC.out.1 HFC.out.2.1 HFC.out.2.2.1);clear e0 e1 e2 e3;have q0:=RW4_0.out;rw [HW4.out] at q0;obtain ⟨⟨p0_0,p0_1,p0_2,p0_3,p0_4⟩, -⟩:=af q0;clear q0;have q1:=RW4_1.out;rw [HW4.out] at q1;obtain ⟨⟨p1_0,p1_1,p1_2,p1_3,p1_4⟩, -⟩:=af q1;clear q1;go_wp2_with fail;rw [←HW4.out];clear p0_0 p0_1 p0_2 p0_3 p0_4 p1_0 p1_1 p1_2 p1_3 p1_4;refine (b8 x _ W4 (HTT.out.below (RowKit.Hid.out (by assumption))) (HRX.out.below FW4_x.out (Nat.le_refl _) FW4_x.out.size) HSX.out).mono ?_;rintro e w5 ⟨hwh,hb⟩;have Rw5_0:=zR hb LW4_0 RW4_0;have Lw5_0:=zL hb LW4_0;have Rw5_1:=zR hb LW4_1 RW4_1;have Lw5_1:=zL hb LW4_1;have Fw5_x:=zB hb FW4_x;have HBw5:=zB hb HBW4;obtain ⟨g,gc,he,hrw⟩:∃ g c,e = .returned (.agg #[.int .i64 6,.int .i64 0,.string ⟨#[]⟩,.slice none 0 0,.slice (some ⟨g,0,none⟩) 4 c])∧RdA w5 0 w5.heap.size (aL x) [.int .i64 6,.int .i64 0,.string ⟨#[]⟩,.slice none 0 0,.slice (some ⟨g,0,none⟩) 4 c]:=by
    rcases hwh with ⟨-,g,c,h1, -, -, -,h5⟩ | ⟨h, -⟩
    ·exact ⟨g,c,h1,h5⟩
    ·exact absurd HGX.out h
   subst he;have HRW:=zh hrw;clear hwh hrw;clear hb;have HGT:=zh (qco (aL x) _ nm w5 HRW.out (qbF (Em.bS (by decide) _ HSX.out)));rw [HSN.out] at HGT;obtain ⟨⟨p0_0,p0_1,p0_2,p0_3,p0_4⟩, -⟩:=af Rw5_0.out;obtain ⟨⟨p1_0,p1_1,p1_2,p1_3,p1_4⟩, -⟩:=af Rw5_1.out;go_wp2_with fail;clear p0_0 p0_1 p0_2 p0_3 p0_4 p1_0 p1_1 p1_2 p1_3 p1_4;refine (HGT.out).mono ?_;rintro e w6 ⟨⟨cs,rfl,hgr⟩,hb⟩;have Rw6_0:=zR hb Lw5_0 Rw5_0;have Lw6_0:=zL hb Lw5_0;have Rw6_1:=zR hb Lw5_1 Rw5_1;have Lw6_1:=zL hb Lw5_1;have Fw6_x:=zB hb Fw5_x;have HBw6:=zB hb HBw5;obtain ⟨xk,xn,xS,xA,xl,xc,xB,xm,xd,rfl, -⟩:∃ (xk xn:Int) (xS:ByteArray) (xA:Option Addr) (xl xc:Nat) (xB:Option Addr) (xm xd:Nat),cs=[.int .i64 xk,.int .i64 xn,.string xS,.slice xA xl xc,.slice xB xm xd]∧True:=by
    obtain ⟨A,c,A2,c2,ec, -⟩:=hgr.cells;exact ⟨_,_,_,A,_,c,A2,_,c2,ec,trivial⟩
   clear hgr;generalize decide (nm∈inN (aL x))=bb at *;clear hb;obtain ⟨W6,hW6⟩:∃ W6,W6=w6.alloc (.cells #[.int .i64 xk,.int .i64 xn,.string xS,.slice xA xl xc,.slice xB xm xd] 25):=⟨_,rfl⟩
   have hb:Below w6.heap.size w6 W6:=by rw [hW6];exact (Below.refl _ _).alloc (Nat.le_refl _) _
   have RW6_0:=zR hb Lw6_0 Rw6_0;have LW6_0:=zL hb Lw6_0;have RW6_1:=zR hb Lw6_1 Rw6_1;have LW6_1:=zL hb Lw6_1;have FW6_x:=zB hb Fw6_x;have HBW6:=zB hb HBw6;have RW6_2:=zh (show W6.heap[w6.heap.size]? = some (.cells #[.int .i64 xk,.int .i64 xn,.string xS,.slice xA xl xc,.slice xB xm xd] 25 (0,0)) by rw [hW6];exact ai _ _);have LW6_2:=zh (show w6.heap.size<W6.heap.size by rw [hW6,aC];exact Nat.lt_succ_self _);have HW6:=zh hW6;clear hW6 hb;have q0:=RW6_0.out;rw [HW6.out] at q0;obtain ⟨⟨p0_0,p0_1,p0_2,p0_3,p0_4⟩, -⟩:=af q0;clear q0;have q1:=RW6_1.out;rw [HW6.out] at q1;obtain ⟨⟨p1_0,p1_1,p1_2,p1_3,p1_4⟩, -⟩:=af q1;clear q1;have q2:=RW6_2.out;rw [HW6.out] at q2;obtain ⟨⟨p2_0,p2_1,p2_2,p2_3,p2_4⟩, -⟩:=af q2;clear q2;go_wp2_with fail;rw [←HW6.out];clear p0_0 p0_1 p0_2 p0_3 p0_4 p1_0 p1_1 p1_2 p1_3 p1_4 p2_0 p2_1 p2_2 p2_3 p2_4;refine (bF x _ W6 (HRX.out.below FW6_x.out (Nat.le_refl _) FW6_x.out.size) HSX.out).mono ?_;rintro e w7 ⟨x2,ps2,rfl,hown,hris,hmem,hb⟩;obtain ⟨Ak2,cc2,rfl,hx⟩:=Rd.of_own hown;have HO2:=zh (show Rd w7 w7.heap.size (.slice Ak2 (aF ps2).length cc2) (aF ps2) from ⟨Ak2,cc2,rfl,hx⟩);have HS2:=zh hris;have HM2:=zh hmem;rw [aX] at HO2 ⊢;obtain ⟨nn2,hn2⟩:∃ q,ps2.length=q:=⟨_,rfl⟩
   have HN2:=zh hn2;rw [hn2] at HO2 ⊢;clear hown hris hmem hx hn2;have Rw7_0:=zR hb LW6_0 RW6_0;have Lw7_0:=zL hb LW6_0;have Rw7_1:=zR hb LW6_1 RW6_1;have Lw7_1:=zL hb LW6_1;have Rw7_2:=zR hb LW6_2 RW6_2;have Lw7_2:=zL hb LW6_2;have Fw7_x:=zB hb FW6_x;have HBw7:=zB hb HBW6;clear hb;have hz0:nn2=0:=by
    have e:ps2=[]:=List.eq_nil_iff_forall_not_mem.2 (fun n hn=>by have:=(HM2.out n).1 hn;rw [HGX.out n] at this;cases this);rw [←HN2.out,e];rfl
   subst hz0;obtain ⟨⟨p0_0,p0_1,p0_2,p0_3,p0_4⟩, -⟩:=af Rw7_0.out;obtain ⟨⟨p1_0,p1_1,p1_2,p1_3,p1_4⟩, -⟩:=af Rw7_1.out;obtain ⟨⟨p2_0,p2_1,p2_2,p2_3,p2_4⟩, -⟩:=af Rw7_2.out;go_wp2;go_ret;exact ⟨rfl,HBw7.out⟩
  ·have s1:decide ((0:Int)<(nn1:Int))=true:=zT (by omega);have s2:decide (0<nn1)=true:=zT (by omega);have s3:decide ((nn1:Int)>0)=true:=zT (by omega);have s4:0<nn1:=by omega
   obtain ⟨⟨p0_0,p0_1,p0_2,p0_3,p0_4⟩, -⟩:=af Rw3_0.out;go_wp2_with fail;clear p0_0 p0_1 p0_2 p0_3 p0_4;refine (qaw _ (HTT.out.below (RowKit.Hid.out (by assumption)))).mono ?_;rintro e w4 ⟨rfl,hb⟩;have Rw4_0:=zR hb Lw3_0 Rw3_0;have Lw4_0:=zL hb Lw3_0;have HBw4:=zB hb HBw3;clear hb;go_wp2;go_ret;exact ⟨rfl,HBw4.out⟩
