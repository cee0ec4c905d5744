/- Merged: PoGr. -/
import Derived.Test.YtofelafamfckiaaGreatDoorTt43
set_option maxRecDepth 100000
set_option maxHeartbeats 1000000
namespace Go.Proofs.YtofelafamfckiaaGreatDoor
namespace Po
open Go.Proofs Go.RowKit Go.Lib Utf Sc Re Tr
theorem qg3 (hi:Nat) (v:V) (cs:List Value) (nm:List UInt8) (w:World) (hhi:hi≤w.heap.size) (hv:RdA w 0 hi v cs) (hz:szA 4611686018427387904 v) :
  Calls Tryz.prog 33 #[.agg cs.toArray,.string (ae nm)] w (qaW hi v nm w):=by
 have hlen:=qjQ hv;obtain ⟨-, -, -, -,z2, -, -, -⟩:=(bH _ v).1 hz;obtain ⟨A0,c0,A20,c20,rfl,hns, -,hM⟩:=hv.cells;have HM:=zh hM;have HNS:=zh hns;have HLEN:=zh hlen;obtain ⟨m,hm⟩:∃ x,v.ms.length=x:=⟨_,rfl⟩
 obtain ⟨k,hk⟩:∃ x,v.k=x:=⟨_,rfl⟩
 have HN2:=zh hm;have HK:=zh hk;rw [hm] at z2 HM ⊢;rw [hk];clear hv hz hM hns hlen hm hk;generalize v.n=n;generalize ae v.s=S;generalize v.l.length=l;obtain ⟨W0,hW0⟩:∃ W0,W0=((w.alloc (.cells #[.int .i64 k,.int .i64 n,.string S,.slice A0 l c0,.slice A20 m c20] 25)).alloc (.cells #[.int .i64 0,.int .i64 0,.string ⟨#[]⟩,.slice none 0 0,.slice none 0 0] 25)):=⟨_,rfl⟩
 have HB0:=zh (show Below w.heap.size w W0 by rw [hW0];exact ((Below.refl _ _).alloc (Nat.le_refl _) _).alloc (by simp) _);have HS0:=zh (show W0.heap.size=w.heap.size+2 by rw [hW0,aE,aE]);have HV0:=zh (show W0.heap[w.heap.size]? = some (.cells #[.int .i64 k,.int .i64 n,.string S,.slice A0 l c0,.slice A20 m c20] 25 (0,0)) by rw [hW0];exact aj (af _ _) _);have HR0:=zh (show W0.heap[w.heap.size+1]? = some (.cells #[.int .i64 0,.int .i64 0,.string ⟨#[]⟩,.slice none 0 0,.slice none 0 0] 25 (0,0)) by
  rw [hW0,show w.heap.size+1=(w.alloc (.cells #[.int .i64 k,.int .i64 n,.string S,.slice A0 l c0,.slice A20 m c20] 25)).heap.size by simp];exact af _ _)
 have HW0:=zh hW0;clear hW0;have NONE:∀ W:World,nm∉inN v→Below w.heap.size w W→qaW hi v nm w (.returned (.tuple #[.agg #[.int .i64 0,.int .i64 0,.string ⟨#[]⟩,.slice none 0 0,.slice none 0 0],.bool false])) (st5 W (w.heap.size+1) (.int .i64 0) (.int .i64 0) (.string ⟨#[]⟩) (.slice none 0 0) (.slice none 0 0)):=fun W hin hb=>by
  refine ⟨⟨[.int .i64 0,.int .i64 0,.string ⟨#[]⟩,.slice none 0 0,.slice none 0 0],by rw [zF hin],?_⟩,aM hb (by omega) _ _ _ _ _⟩;rw [qd9 HLEN.out hin];exact qcv _ _ _
 have HNO:=zh NONE;clear NONE;by_cases h6:k=6
 ·subst h6;have hN:inN v=v.ns:=if_pos HK.out;have hMm:inM v=v.ms:=if_pos HK.out;have HIN:=zh hN;have HIM:=zh hMm;clear hN hMm;go_enter Tryz.func33,Tryz.ntmps33;go_wp2_with fail;rw [←HW0.out];go_loopw [6] (fun i wr=>∃ kk:Nat,i = .int .i64 kk∧kk≤m∧Aside (∀ j (h:j<v.ns.length),j<kk→v.ns[j]≠nm)∧Aside (Below W0.heap.size W0 wr)) (fun i _=>m-(intOf i).toNat)
  case atStart=>exact ⟨0,rfl,by omega,(show ∀ _ _,_ from fun j h hj=>by omega),(show Below _ _ _ from Below.refl _ _)⟩
  case round=>
   obtain ⟨kk,rfl,hk,hno,hbel⟩:=hrel;have hwb:Below w.heap.size w wr:=HB0.out.trans (hbel.out.mono HB0.out.size);have HWB:=zh hwb;obtain ⟨⟨p0,p1,p2,p3,p4⟩, -⟩:=ag ((hbel.out.block w.heap.size (by rw [HS0.out];omega)).trans HV0.out);have hrr:=(hbel.out.block (w.heap.size+1) (by rw [HS0.out];omega)).trans HR0.out;have HRR:=zh hrr;obtain ⟨⟨r0,r1,r2,r3,r4⟩,⟨f0,f1,f2,f3,f4⟩⟩:=ag hrr;clear hrr;by_cases hlt:kk<m
   ·have t1:decide ((kk:Int)<(m:Int))=true:=zT (by omega);have t2:decide (kk<m)=true:=zT hlt;have k0:(0:Int)≤(kk:Int):=by omega
    have k1:(kk:Int)<(m:Int):=by omega
    have k2:((kk:Int)).toNat=kk:=by omega
    have hkl:kk<v.ms.length:=by rw [HN2.out];exact hlt
    have hkn:kk<v.ns.length:=by rw [HNS.out];exact hkl
    obtain ⟨g,o,rfl,_,hg0,hr⟩:=HM.out (by omega);have hg:=Nat.lt_of_lt_of_le hg0 hhi;obtain ⟨hxn,xcs,hxc,hxv⟩:=aO.at_ _ _ o hr kk hkl hkn;have HXV:=zh hxv;obtain ⟨xA,xc,xB,xd,rfl, -⟩:=hxv.cells;have an:=(hwb.cell (p:=⟨g,o+kk*6,none⟩) hg).trans hxn;have a0:=(hwb.cell (p:=⟨g,o+kk*6+1,none⟩) hg).trans (hxc 0 _ rfl);have a1:=(hwb.cell (p:=⟨g,o+kk*6+2,none⟩) hg).trans (hxc 1 _ rfl);have a2:=(hwb.cell (p:=⟨g,o+kk*6+3,none⟩) hg).trans (hxc 2 _ rfl);have a3:=(hwb.cell (p:=⟨g,o+kk*6+4,none⟩) hg).trans (hxc 3 _ rfl);have a4:=(hwb.cell (p:=⟨g,o+kk*6+5,none⟩) hg).trans (hxc 4 _ rfl);by_cases hx:v.ns[kk]=nm
    ·have t3:((ae v.ns[kk]).toList==(ae nm).toList)=true:=by rw [hx];exact beq_self_eq_true _
     have hidx:(inN v).idxOf nm=kk:=by rw [HIN.out];exact qdD hkn hno.out hx
     have hmem:nm∈inN v:=by rw [HIN.out,←hx];exact List.getElem_mem hkn
     have hge:=qek (nm:=nm) (by rw [HIM.out];exact hkl) hidx;have HGE:=zh (show bQ v nm=v.ms[kk] by rw [hge];simp only [HIM.out]);have HDC:=zh (zT hmem);generalize v.ms[kk]=y at *;generalize ae v.ns[kk]=X at *;generalize ae nm=Y at *;generalize y.k=xk at *;generalize y.n=xn at *;generalize ae y.s=xs at *;generalize y.l.length=xl at *;generalize y.ms.length=xm at *;clear hxv hxc hr hxn hx hidx hmem hge hwb hno hbel;go_wp2;refine bodyPost_ret (qdN rfl rfl rfl (be HRR.out (.int .i64 xk) (.int .i64 xn) (.string xs) (.slice xA xl xc) (.slice xB xm xd))) rfl ?_;refine ⟨⟨[.int .i64 xk,.int .i64 xn,.string xs,.slice xA xl xc,.slice xB xm xd],by rw [HDC.out];rfl,?_⟩,aM HWB.out (by omega) _ _ _ _ _⟩;rw [HGE.out];exact HXV.out
    ·have t3:((ae v.ns[kk]).toList==(ae nm).toList)=false:=by
      rw [beq_eq_false_iff_ne,ay,ay];exact hx
     have HNX:=zh (show ∀ j (h:j<v.ns.length),j<kk+1→v.ns[j]≠nm from fun j h hj=>by
      by_cases e:j=kk
      ·subst e;exact hx
      ·exact hno.out j h (by omega))
     generalize ae v.ns[kk]=X at *;clear hxv hxc hr hxn hx hno;go_wp2;go_roundw
     case rel=>exact ⟨kk+1,by go_num,by omega,(show ∀ _ _,_ from HNX.out),(show Below _ _ _ from hbel.out)⟩
     case measure=>simp [intOf];omega
   ·have t1:decide ((kk:Int)<(m:Int))=false:=zF (by omega);have t2:decide (kk<m)=false:=zF hlt;have hin:nm∉inN v:=fun h=>by
     rw [HIN.out] at h;obtain ⟨j,hj,e⟩:=List.getElem_of_mem h;exact hno.out j hj (by have:=HNS.out;have:=HN2.out;omega) e
    have HIX:=zh hin;clear hin hno hwb;go_wp2;refine bodyPost_ret (qdN rfl rfl rfl (be HRR.out (.int .i64 0) (.int .i64 0) (.string ⟨#[]⟩) (.slice none 0 0) (.slice none 0 0))) rfl ?_;exact HNO.out _ HIX.out HWB.out
 ·have n6:decide (k=6)=false:=zF h6;have HIX:=zh (show nm∉inN v from fun h=>by
   unfold inN at h;rw [if_neg (by rw [HK.out];exact h6)] at h;cases h)
  have hr0:=HR0.out;obtain ⟨⟨p0,p1,p2,p3,p4⟩, -⟩:=ag HV0.out;obtain ⟨⟨r0,r1,r2,r3,r4⟩,⟨f0,f1,f2,f3,f4⟩⟩:=ag hr0;clear hr0;go_enter Tryz.func33,Tryz.ntmps33;go_wp2_with fail;rw [←HW0.out];go_loopw [6] (fun i wr=>i = .int .i64 0∧Aside (wr=W0)) (fun i _=>0)
  case atStart=>exact ⟨rfl,(show _=_ from rfl)⟩
  case round=>
   obtain ⟨rfl,hw⟩:=hrel;obtain rfl:wr=W0:=hw.out;clear hw;by_cases hlt:0<m
   ·have t1:decide ((0:Int)<(m:Int))=true:=zT (by omega);have t2:decide (0<m)=true:=zT hlt;go_wp2;refine bodyPost_ret (qdN rfl rfl rfl (be HR0.out (.int .i64 0) (.int .i64 0) (.string ⟨#[]⟩) (.slice none 0 0) (.slice none 0 0))) rfl ?_;exact HNO.out _ HIX.out HB0.out
   ·have t1:decide ((0:Int)<(m:Int))=false:=zF (by omega);have t2:decide (0<m)=false:=zF hlt;go_wp2;refine bodyPost_ret (qdN rfl rfl rfl (be HR0.out (.int .i64 0) (.int .i64 0) (.string ⟨#[]⟩) (.slice none 0 0) (.slice none 0 0))) rfl ?_;exact HNO.out _ HIX.out HB0.out
