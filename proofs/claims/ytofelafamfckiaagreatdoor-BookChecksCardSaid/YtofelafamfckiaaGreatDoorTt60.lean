/- Merged: BkAw BkW4. -/
import Derived.Test.YtofelafamfckiaaGreatDoorTt44
import Derived.Test.YtofelafamfckiaaGreatDoorTt59
import Derived.Test.YtofelafamfckiaaGreatDoorTt54
import Derived.Test.YtofelafamfckiaaGreatDoorTt55
set_option maxRecDepth 100000
set_option maxHeartbeats 1000000
set_option linter.unusedSimpArgs false
namespace Go.Proofs.YtofelafamfckiaaGreatDoor
namespace Bk
open Go.Proofs Go.RowKit Utf Sc Re Tr Po
open Em (bC szU wfV qaA)
theorem qcm (w:World) (hT:Tab w):Calls Tryz.prog 8 #[] w fun e w'=>e = .returned (.bool true)∧Below w.heap.size w w':=by
 have HTT:=zh hT;clear hT;have HBw:=zh (Below.refl w.heap.size w);go_enter Tryz.func8,Tryz.ntmps8;go_wp2_with fail;refine (qdg ⟨#[123,34,110,97,109,101,34,58,34,97,34,125]⟩ _ (by decide) qlE).mono ?_;rintro e w1 ⟨vA,vc,vB,vd,rfl,hv,hb⟩;have HBw1:=zB hb HBw;have hv2:=RdA.of_RdV _ _ hv;clear hb;have Fw1_v:=zh (Below.refl w1.heap.size w1);obtain ⟨v,hvv⟩:∃ x:V,awV=x:=⟨_,rfl⟩
 have HEv:=zh hvv;rw [hvv] at hv2 ⊢;have Hv:=zh hv2.wide;clear hv hv2 hvv;generalize v.k=vk at *;generalize v.n=vn at *;generalize ae v.s=vS at *;generalize v.l.length=vl at *;generalize v.ms.length=vm at *;obtain ⟨W1,hW1⟩:∃ W1,W1=w1.alloc (.cells #[.int .i64 vk,.int .i64 vn,.string vS,.slice vA vl vc,.slice vB vm vd] 25):=⟨_,rfl⟩
 have hb:Below w1.heap.size w1 W1:=by rw [hW1];exact (Below.refl _ _).alloc (Nat.le_refl _) _
 have FW1_v:=zB hb Fw1_v;have HBW1:=zB hb HBw1;have RW1_0:=zh (show W1.heap[w1.heap.size]? = some (.cells #[.int .i64 vk,.int .i64 vn,.string vS,.slice vA vl vc,.slice vB vm vd] 25 (0,0)) by rw [hW1];exact af _ _);have LW1_0:=zh (show w1.heap.size<W1.heap.size by rw [hW1,aE];exact Nat.lt_succ_self _);have HW1:=zh hW1;clear hW1 hb;have q0:=RW1_0.out;rw [HW1.out] at q0;obtain ⟨⟨p0_0,p0_1,p0_2,p0_3,p0_4⟩, -⟩:=ag q0;clear q0;go_wp2_with fail;rw [←HW1.out];clear p0_0 p0_1 p0_2 p0_3 p0_4;refine (qdg ⟨#[123,34,115,111,114,116,79,114,100,101,114,34,58,45,49,44,34,120,34,58,49,125]⟩ _ (by decide) qlz).mono ?_;rintro e w2 ⟨uA,uc,uB,ud,rfl,hu,hb⟩;have Rw2_0:=zR hb LW1_0 RW1_0;have Lw2_0:=zL hb LW1_0;have Fw2_v:=zB hb FW1_v;have HBw2:=zB hb HBW1;have hu2:=RdA.of_RdV _ _ hu;clear hb;have Fw2_u:=zh (Below.refl w2.heap.size w2);obtain ⟨u,huv⟩:∃ x:V,awW=x:=⟨_,rfl⟩
 have HEu:=zh huv;rw [huv] at hu2 ⊢;have Hu:=zh hu2.wide;clear hu hu2 huv;generalize u.k=uk at *;generalize u.n=un at *;generalize ae u.s=uS at *;generalize u.l.length=ul at *;generalize u.ms.length=um at *;obtain ⟨W2,hW2⟩:∃ W2,W2=w2.alloc (.cells #[.int .i64 uk,.int .i64 un,.string uS,.slice uA ul uc,.slice uB um ud] 25):=⟨_,rfl⟩
 have hb:Below w2.heap.size w2 W2:=by rw [hW2];exact (Below.refl _ _).alloc (Nat.le_refl _) _
 have RW2_0:=zR hb Lw2_0 Rw2_0;have LW2_0:=zL hb Lw2_0;have FW2_v:=zB hb Fw2_v;have FW2_u:=zB hb Fw2_u;have HBW2:=zB hb HBw2;have RW2_1:=zh (show W2.heap[w2.heap.size]? = some (.cells #[.int .i64 uk,.int .i64 un,.string uS,.slice uA ul uc,.slice uB um ud] 25 (0,0)) by rw [hW2];exact af _ _);have LW2_1:=zh (show w2.heap.size<W2.heap.size by rw [hW2,aE];exact Nat.lt_succ_self _);have HW2:=zh hW2;clear hW2 hb;have q0:=RW2_0.out;rw [HW2.out] at q0;obtain ⟨⟨p0_0,p0_1,p0_2,p0_3,p0_4⟩, -⟩:=ag q0;clear q0;have q1:=RW2_1.out;rw [HW2.out] at q1;obtain ⟨⟨p1_0,p1_1,p1_2,p1_3,p1_4⟩, -⟩:=ag q1;clear q1;go_wp2_with fail;rw [←HW2.out];clear p0_0 p0_1 p0_2 p0_3 p0_4 p1_0 p1_1 p1_2 p1_3 p1_4;refine (qbm v [.int .i64 vk,.int .i64 vn,.string vS,.slice vA vl vc,.slice vB vm vd] _ (HTT.out.below (RowKit.Hid.out (by assumption))) (Hv.out.below FW2_v.out (Nat.le_refl _) FW2_v.out.size) (by rw [←HEv.out];exact qaA _ _ (qab _ (.inl rfl)).1 (by have:=(qab _ (.inl rfl)).2.1;omega))).mono ?_;rintro e w3 ⟨hwh,hb⟩;obtain ⟨g,xc,he,hg1,hg2,hxA⟩:∃ g c,e = .returned (.agg #[.int .i64 6,.int .i64 0,.string ⟨#[]⟩,.slice none 0 0,.slice (some ⟨g,0,none⟩) 4 c])∧W2.heap.size≤g∧g<w3.heap.size∧RdA w3 0 w3.heap.size (cq awV) [.int .i64 6,.int .i64 0,.string ⟨#[]⟩,.slice none 0 0,.slice (some ⟨g,0,none⟩) 4 c]:=by
  rcases hwh with ⟨-,g,c,h1,h2,h3, -,h5⟩ | ⟨h, -⟩
  ·rw [←HEv.out] at h5;exact ⟨g,c,h1,h2,h3,h5⟩
  ·exact absurd qj6 (by rw [HEv.out];exact h)
 subst he;have HTX:=zh (show Calls Tryz.prog 21 #[.agg #[.int .i64 6,.int .i64 0,.string ⟨#[]⟩,.slice none 0 0,.slice (some ⟨g,0,none⟩) 4 xc]] w3 (fun e w'=>e = .returned (.tuple #[.string ⟨#[123,34,100,101,115,99,114,105,112,116,105,111,110,34,58,110,117,108,108,44,34,105,115,83,117,98,115,99,114,105,98,101,100,34,58,116,114,117,101,44,34,110,97,109,101,34,58,34,97,34,44,34,115,111,114,116,79,114,100,101,114,34,58,48,125]⟩,.int .i64 0])∧Below w3.heap.size w3 w') from by
  have hw:=qab _ (.inr (.inr rfl));refine (Em.qj5 (cq awV) _ 0 w3 hw.2.2 (by have:=hw.2.1;omega) (qaA _ _ hw.1 (by have:=hw.2.1;omega)) hxA).mono ?_;rintro e w' ⟨h1,h2⟩;refine ⟨?_,h2⟩;rw [qlw,qjM] at h1;exact h1)
 clear hwh hg1 hg2 hxA;have Rw3_0:=zR hb LW2_0 RW2_0;have Lw3_0:=zL hb LW2_0;have Rw3_1:=zR hb LW2_1 RW2_1;have Lw3_1:=zL hb LW2_1;have Fw3_v:=zB hb FW2_v;have Fw3_u:=zB hb FW2_u;have HBw3:=zB hb HBW2;clear hb;obtain ⟨⟨p0_0,p0_1,p0_2,p0_3,p0_4⟩, -⟩:=ag Rw3_0.out;obtain ⟨⟨p1_0,p1_1,p1_2,p1_3,p1_4⟩, -⟩:=ag Rw3_1.out;go_wp2_with fail;clear p0_0 p0_1 p0_2 p0_3 p0_4 p1_0 p1_1 p1_2 p1_3 p1_4;refine (HTX.out).mono ?_;rintro e w4 ⟨rfl,hb⟩;have Rw4_0:=zR hb Lw3_0 Rw3_0;have Lw4_0:=zL hb Lw3_0;have Rw4_1:=zR hb Lw3_1 Rw3_1;have Lw4_1:=zL hb Lw3_1;have Fw4_v:=zB hb Fw3_v;have Fw4_u:=zB hb Fw3_u;have HBw4:=zB hb HBw3;clear hb;obtain ⟨⟨p0_0,p0_1,p0_2,p0_3,p0_4⟩, -⟩:=ag Rw4_0.out;obtain ⟨⟨p1_0,p1_1,p1_2,p1_3,p1_4⟩, -⟩:=ag Rw4_1.out;go_wp2_with fail;clear p0_0 p0_1 p0_2 p0_3 p0_4 p1_0 p1_1 p1_2 p1_3 p1_4;refine (qad u [.int .i64 uk,.int .i64 un,.string uS,.slice uA ul uc,.slice uB um ud] _ (Hu.out.below Fw4_u.out (Nat.le_refl _) Fw4_u.out.size) (by rw [←HEu.out];exact qaA _ _ (qab _ (.inr (.inl rfl))).1 (by have:=(qab _ (.inr (.inl rfl))).2.1;omega))).mono ?_;rintro e w5 ⟨x2,ps2,rfl,hown,hris,hmem,hb⟩;obtain ⟨Ak2,cc2,rfl,hx⟩:=Rd.of_own hown;have HO2:=zh (show Rd w5 w5.heap.size (.slice Ak2 (aD ps2).length cc2) (aD ps2) from ⟨Ak2,cc2,rfl,hx⟩);have HS2:=zh hris;have HM2:=zh hmem;rw [aY] at HO2 ⊢;clear hown hris hmem hx;have Rw5_0:=zR hb Lw4_0 Rw4_0;have Lw5_0:=zL hb Lw4_0;have Rw5_1:=zR hb Lw4_1 Rw4_1;have Lw5_1:=zL hb Lw4_1;have Fw5_v:=zB hb Fw4_v;have Fw5_u:=zB hb Fw4_u;have HBw5:=zB hb HBw4;clear hb;have he2:ps2=[[110,97,109,101],[115,111,114,116,79,114,100,101,114],[120]]:=qdU HS2.out (by decide +kernel) (fun n=>by rw [HM2.out n,←HEu.out];exact qlu n);subst he2;obtain ⟨Z,hZ⟩:∃ Z,Z=w5.alloc (.cells #[.string ⟨#[110,97,109,101]⟩,.string ⟨#[115,111,114,116,79,114,100,101,114]⟩,.string ⟨#[120]⟩] 9):=⟨_,rfl⟩
 have hb:Below w5.heap.size w5 Z:=by rw [hZ];exact (Below.refl _ _).alloc (Nat.le_refl _) _
 have hrz:Z.heap[w5.heap.size]? = some (.cells #[.string ⟨#[110,97,109,101]⟩,.string ⟨#[115,111,114,116,79,114,100,101,114]⟩,.string ⟨#[120]⟩] 9 (0,0)):=by rw [hZ];exact af _ _
 have hsz:Z.heap.size=w5.heap.size+1:=by rw [hZ,aE]
 have HQ:=zh (dj (.slice Ak2 3 cc2) (.slice (some ⟨w5.heap.size,0,none⟩) 3 3) [[110,97,109,101],[115,111,114,116,79,114,100,101,114],[120]] [[110,97,109,101],[115,111,114,116,79,114,100,101,114],[120]] Z ((HO2.out.below' hb (Nat.le_refl _)).more (by omega)) ⟨some ⟨w5.heap.size,0,none⟩,3,rfl,fun _=>⟨_,rfl,by show w5.heap.size<Z.heap.size;omega,fun j u hu=>by
  match j,hu with
  | 0,hu=>injection hu with hu;rw [Addr.add_lit,cell_of_row _ _ _ _ _ _ hrz,←hu];rfl
  | 1,hu=>injection hu with hu;rw [Addr.add_lit,cell_of_row _ _ _ _ _ _ hrz,←hu];rfl
  | 2,hu=>injection hu with hu;rw [Addr.add_lit,cell_of_row _ _ _ _ _ _ hrz,←hu];rfl⟩⟩ (by decide))
 have RZ_0:=zR hb Lw5_0 Rw5_0;have LZ_0:=zL hb Lw5_0;have RZ_1:=zR hb Lw5_1 Rw5_1;have LZ_1:=zL hb Lw5_1;have FZ_v:=zB hb Fw5_v;have FZ_u:=zB hb Fw5_u;have HBZ:=zB hb HBw5;have HZ:=zh hZ;clear hZ hb hrz hsz;obtain ⟨⟨p0_0,p0_1,p0_2,p0_3,p0_4⟩, -⟩:=ag Rw5_0.out;obtain ⟨⟨p1_0,p1_1,p1_2,p1_3,p1_4⟩, -⟩:=ag Rw5_1.out;go_wp2_with fail;rw [←HZ.out];clear p0_0 p0_1 p0_2 p0_3 p0_4 p1_0 p1_1 p1_2 p1_3 p1_4;refine HQ.out.mono ?_;rintro e w6 ⟨⟨b,rfl,hq⟩,hb⟩;obtain rfl:b=true:=hq.2 (by trivial);clear hq HQ;have Rw6_0:=zR hb LZ_0 RZ_0;have Lw6_0:=zL hb LZ_0;have Rw6_1:=zR hb LZ_1 RZ_1;have Lw6_1:=zL hb LZ_1;have Fw6_v:=zB hb FZ_v;have Fw6_u:=zB hb FZ_u;have HBw6:=zB hb HBZ;clear hb;obtain ⟨⟨p0_0,p0_1,p0_2,p0_3,p0_4⟩, -⟩:=ag Rw6_0.out;obtain ⟨⟨p1_0,p1_1,p1_2,p1_3,p1_4⟩, -⟩:=ag Rw6_1.out;go_wp2_with fail;clear p0_0 p0_1 p0_2 p0_3 p0_4 p1_0 p1_1 p1_2 p1_3 p1_4;refine (qad v [.int .i64 vk,.int .i64 vn,.string vS,.slice vA vl vc,.slice vB vm vd] _ (Hv.out.below Fw6_v.out (Nat.le_refl _) Fw6_v.out.size) (by rw [←HEv.out];exact qaA _ _ (qab _ (.inl rfl)).1 (by have:=(qab _ (.inl rfl)).2.1;omega))).mono ?_;rintro e w7 ⟨x1,ps1,rfl,hown,hris,hmem,hb⟩;obtain ⟨Ak1,cc1,rfl,hx⟩:=Rd.of_own hown;have HO1:=zh (show Rd w7 w7.heap.size (.slice Ak1 (aD ps1).length cc1) (aD ps1) from ⟨Ak1,cc1,rfl,hx⟩);have HS1:=zh hris;have HM1:=zh hmem;rw [aY] at HO1 ⊢;clear hown hris hmem hx;have Rw7_0:=zR hb Lw6_0 Rw6_0;have Lw7_0:=zL hb Lw6_0;have Rw7_1:=zR hb Lw6_1 Rw6_1;have Lw7_1:=zL hb Lw6_1;have Fw7_v:=zB hb Fw6_v;have Fw7_u:=zB hb Fw6_u;have HBw7:=zB hb HBw6;clear hb;have he1:ps1=[]:=List.eq_nil_iff_forall_not_mem.2 (fun n hn=>by
  have:=(HM1.out n).1 hn;rw [←HEv.out,qj6 n] at this;cases this)
 subst he1;go_wp2;go_ret;exact ⟨rfl,HBw7.out⟩
end Bk
end Go.Proofs.YtofelafamfckiaaGreatDoor
set_option linter.unusedSimpArgs false
namespace Go.Proofs.YtofelafamfckiaaGreatDoor
namespace Bk
open Go.Proofs Go.RowKit Utf Sc Re Tr Po
open Pa (qb3)
open Cd (mem fst)
theorem qgF {B:Nat} {v y:V} {n:List UInt8} (h:szA B v) (hy:szA B y):szA B (orV v n y):=by
 unfold orV;cases hf:fst (mem v) n with
 | none=>exact hy
 | some x=>exact bh ((bH _ v).1 h).2.2.2.2.2.2.2 (Cd.qg0 (qjO hf))
theorem qht {v:V} {B:Nat} (hB:400≤B) (h:szA B v):szA B (cq v):=by
 have z1:szA B qe4:=by rw [qe4,szA];exact ⟨by decide,by decide,Nat.zero_le _,Nat.zero_le _,Nat.zero_le _,(fun _ h=>by cases h),(by rw [aV];trivial),(by rw [aV];trivial)⟩
 have z2:szA B qf7:=by rw [qf7,szA];exact ⟨by decide,by decide,Nat.zero_le _,Nat.zero_le _,Nat.zero_le _,(fun _ h=>by cases h),(by rw [aV];trivial),(by rw [aV];trivial)⟩
 have z3:szA B qgm:=by rw [qgm,szA];exact ⟨by decide,by decide,Nat.zero_le _,Nat.zero_le _,Nat.zero_le _,(fun _ h=>by cases h),(by rw [aV];trivial),(by rw [aV];trivial)⟩
 have z4:szA B V0:=by rw [V0,szA];exact ⟨by decide,by decide,Nat.zero_le _,Nat.zero_le _,Nat.zero_le _,(fun _ h=>by cases h),(by rw [aV];trivial),(by rw [aV];trivial)⟩
 rw [bH];refine ⟨show (Lit.int .i64 6).wf=true by decide,show (Lit.int .i64 0).wf=true by decide,Nat.zero_le _,Nat.zero_le _,show (4:Nat)*96≤_ by omega,?_,(by show aV _ [];rw [aV];trivial),?_⟩
 ·intro nm hn;have:∀ q∈cz,q.length≤100:=by decide
  exact Nat.le_trans (this nm hn) (by omega)
 ·show aV _ (bc v);unfold bc;rw [aV,aV,aV,aV,aV];exact ⟨qgF h z1,qgF h z2,qgF h z4,qgF h z3,trivial⟩
theorem qjq {v:V} (h:szA 4611686018427387904 v):szA 4611686018427387904 (cq v):=qht (by decide) h
