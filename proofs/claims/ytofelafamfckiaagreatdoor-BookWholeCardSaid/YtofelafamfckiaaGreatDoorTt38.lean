/- Merged: TrP TsF. -/
import Derived.Test.YtofelafamfckiaaGreatDoorTt33
import Derived.Test.YtofelafamfckiaaGreatDoorTt11
import Derived.Test.YtofelafamfckiaaGreatDoorTt18
set_option maxRecDepth 100000
set_option maxHeartbeats 1000000
namespace Go.Proofs.YtofelafamfckiaaGreatDoor
namespace Tr
open Go.Proofs Go.RowKit Go.Lib Go.Sort Utf Sc Re
structure It (s o0 g:Nat) (lc:List V) (Gs:List (List Nat)) (w:World):Prop where
 len:Gs.length=lc.length
 at_:∀ i (h1:i<lc.length) (h2:i<Gs.length),∃ cs,az w g (i*s+o0) cs∧RdF w lc[i] cs Gs[i]
 nod:(g::Gs.flatten).Nodup
 lt:∀ x∈g::Gs.flatten,x<w.heap.size
theorem qjB {Gs:List (List Nat)} {i:Nat} (hi:i<Gs.length) {x:Nat} (hx:x∈Gs[i]):x∈Gs.flatten:=List.mem_flatten.2 ⟨_,List.getElem_mem hi,hx⟩
theorem It.keep {s o0 g:Nat} {lc:List V} {Gs:List (List Nat)} {w w':World} (h:It s o0 g lc Gs w) (hb:Below w.heap.size w w'):It s o0 g lc Gs w' where
 len:=h.len
 at_:=fun i h1 h2=>by
  obtain ⟨c,p1,p2⟩:=h.at_ i h1 h2;exact ⟨c,p1.keep (hb.block g (h.lt g (by simp))),RdF.keep _ _ _ (fun k hk=>hb.block k (h.lt k (List.mem_cons_of_mem _ (qjB h2 hk)))) p2⟩
 nod:=h.nod
 lt:=fun x hx=>Nat.lt_of_lt_of_le (h.lt x hx) hb.size
end Tr
namespace Tr
open Go.Proofs Go.RowKit Go.Lib Utf Sc Re
def qfg (w:World) (e:Ending) (w':World):Prop:=(∃ b,e = .returned (.bool b))∧Below w.heap.size w w'
theorem qkk (h:Nat):∀ (v:V) (cs:List Value) (w:World),ht v≤h→szA 4611686018427387904 v→RdA w 0 w.heap.size v cs→Calls Tryz.prog 25 #[.agg cs.toArray] w (qfg w):=by
 induction h with
 | zero=>intro v cs w hh;rw [qam] at hh;omega
 | succ h ih=>
  intro v cs w hh hz hv;have hht:=qam v;obtain ⟨-, -, -,z1,z2, -,z3,z4⟩:=(bL _ v).1 hz;have IHL:=zh (show ∀ x∈v.l,∀ (cx:List Value) (W:World),RdA W 0 W.heap.size x cx→Calls Tryz.prog 25 #[.agg cx.toArray] W (qfg W) from fun x hx cx W hr=>ih x cx W (by have:=bt hx;omega) (aU z3 hx) hr);have IHM:=zh (show ∀ x∈v.ms,∀ (cx:List Value) (W:World),RdA W 0 W.heap.size x cx→Calls Tryz.prog 25 #[.agg cx.toArray] W (qfg W) from fun x hx cx W hr=>ih x cx W (by have:=bt hx;omega) (aU z4 hx) hr);obtain ⟨A0,c0,A20,c20,rfl,hns,hL,hM⟩:=hv.cells;have HL:=zh hL;have HM:=zh hM;have HNS:=zh hns;obtain ⟨l,hl⟩:∃ x,v.l.length=x:=⟨_,rfl⟩
  obtain ⟨m,hm⟩:∃ x,v.ms.length=x:=⟨_,rfl⟩
  have HN1:=zh hl;have HN2:=zh hm;rw [hl] at z1 HL ⊢;rw [hm] at z2 HM ⊢;clear ih hh hht z3 z4 hz hv hL hM hns hl hm;generalize v.k=k;generalize v.n=n;generalize ae v.s=S;obtain ⟨W0,hW0⟩:∃ W0,W0=w.alloc (.cells #[.int .i64 k,.int .i64 n,.string S,.slice A0 l c0,.slice A20 m c20] 25):=⟨_,rfl⟩
  have HB0:=zh (show Below w.heap.size w W0 by rw [hW0];exact (Below.refl _ _).alloc (Nat.le_refl _) _);have HS0:=zh (show W0.heap.size=w.heap.size+1 by rw [hW0,aG]);have HR0:=zh (show W0.heap[w.heap.size]? = some (.cells #[.int .i64 k,.int .i64 n,.string S,.slice A0 l c0,.slice A20 m c20] 25 (0,0)) by rw [hW0];exact am _ _);have HBW0:=zh (Below.refl W0.heap.size W0);have HW0:=zh hW0;clear hW0;by_cases h5:k=5
  ·subst h5;by_cases hm:0<m
   ·have q2:decide ((0:Int)<(m:Int))=true:=zT (by omega);have q2b:decide (0<m)=true:=zT (by omega);go_enter Tryz.func25,Tryz.ntmps25;go_wp2;go_ret;exact ⟨⟨false,rfl⟩,(Below.refl _ _).alloc (Nat.le_refl _) _⟩
   ·have q2:decide ((0:Int)<(m:Int))=false:=zF (by omega);have q2b:decide (0<m)=false:=zF (by omega);go_enter Tryz.func25,Tryz.ntmps25;go_wp2_with fail;rw [←HW0.out];clear q2 q2b hm;go_loopw [3] (fun i wr=>∃ kk:Nat,i = .int .i64 kk∧kk≤l∧Aside (Below W0.heap.size W0 wr)) (fun i _=>l-(intOf i).toNat)
    case atStart=>exact ⟨0,rfl,by omega,(show Below _ _ _ from Below.refl _ _)⟩
    case round=>
     obtain ⟨kk,rfl,hk,hbel⟩:=hrel;have hb0:Below W0.heap.size W0 wr:=HBW0.out.trans hbel.out;have HBR:=zh hb0;have hwb:Below w.heap.size w wr:=HB0.out.trans (hb0.mono HB0.out.size);have HWB:=zh hwb;obtain ⟨⟨p0,p1,p2,p3,p4⟩, -⟩:=ai ((hb0.block w.heap.size (by rw [HS0.out];omega)).trans HR0.out);clear hb0;by_cases hlt:kk<l
     ·have t1:decide ((kk:Int)<(l:Int))=true:=zT (by omega);have t2:decide (kk<l)=true:=zT hlt;have k0:(0:Int)≤(kk:Int):=by omega
      have k1:(kk:Int)<(l:Int):=by omega
      have k2:((kk:Int)).toNat=kk:=by omega
      have hkl:kk<v.l.length:=by rw [HN1.out];exact hlt
      obtain ⟨g,o,rfl,_,hg,hr⟩:=HL.out (by omega);obtain ⟨xcs,hxc,hxv⟩:=aN.at_ _ o hr kk hkl;have hmem:v.l[kk]∈v.l:=List.getElem_mem hkl;have HCP:=zh (IHL.out _ hmem xcs wr (hxv.below hwb (Nat.le_refl _) hwb.size));obtain ⟨xA,xc,xB,xd,rfl, -⟩:=hxv.cells;have a0:=(hwb.cell (p:=⟨g,o+kk*5,none⟩) hg).trans (hxc 0 _ rfl);have a1:=(hwb.cell (p:=⟨g,o+kk*5+1,none⟩) hg).trans (hxc 1 _ rfl);have a2:=(hwb.cell (p:=⟨g,o+kk*5+2,none⟩) hg).trans (hxc 2 _ rfl);have a3:=(hwb.cell (p:=⟨g,o+kk*5+3,none⟩) hg).trans (hxc 3 _ rfl);have a4:=(hwb.cell (p:=⟨g,o+kk*5+4,none⟩) hg).trans (hxc 4 _ rfl);generalize v.l[kk].k=xk at *;generalize v.l[kk].n=xn at *;generalize ae v.l[kk].s=xs at *;generalize v.l[kk].l.length=xl at *;generalize v.l[kk].ms.length=xm at *;clear hxv hxc hmem hr hwb;go_wp2_with fail;refine HCP.out.mono ?_;rintro e w5 ⟨⟨b,rfl⟩,hb5⟩;have HB5:=zh (show Below W0.heap.size W0 w5 from hbel.out.trans (hb5.mono HBR.out.size));clear hb5 HCP;cases b
      ·go_wp2;go_ret;exact ⟨⟨false,rfl⟩,HB0.out.trans ((HBW0.out.trans HB5.out).mono HB0.out.size)⟩
      ·go_wp2;go_roundw
       case rel=>exact ⟨kk+1,by go_num,by omega,(show Below _ _ _ from HB5.out)⟩
       case measure=>simp [intOf];omega
     ·have t1:decide ((kk:Int)<(l:Int))=false:=zF (by omega);have t2:decide (kk<l)=false:=zF hlt;obtain ⟨w2,hw2⟩:∃ w2,w2=wr:=⟨_,rfl⟩
      rw [←hw2] at p0 p1 p2 p3 p4 hbel HBR ⊢;have HBw2:=zh HBR.out;clear hw2 hbel hlt HBR HWB hwb;go_wp2_with fail;go_loopw [4] (fun i wr=>∃ kk:Nat,i = .int .i64 kk∧kk≤m∧Aside (Below W0.heap.size w2 wr)) (fun i _=>m-(intOf i).toNat)
      case atStart=>exact ⟨0,rfl,by omega,(show Below _ _ _ from Below.refl _ _)⟩
      case round=>
       obtain ⟨kk,rfl,hk,hbel⟩:=hrel;have hb0:Below W0.heap.size W0 wr:=HBw2.out.trans hbel.out;have HBR:=zh hb0;have hwb:Below w.heap.size w wr:=HB0.out.trans (hb0.mono HB0.out.size);have HWB:=zh hwb;obtain ⟨⟨p0,p1,p2,p3,p4⟩, -⟩:=ai ((hb0.block w.heap.size (by rw [HS0.out];omega)).trans HR0.out);clear hb0;by_cases hlt:kk<m
       ·have t1:decide ((kk:Int)<(m:Int))=true:=zT (by omega);have t2:decide (kk<m)=true:=zT hlt;have k0:(0:Int)≤(kk:Int):=by omega
        have k1:(kk:Int)<(m:Int):=by omega
        have k2:((kk:Int)).toNat=kk:=by omega
        have hkl:kk<v.ms.length:=by rw [HN2.out];exact hlt
        have hkn:kk<v.ns.length:=by rw [HNS.out];exact hkl
        obtain ⟨g,o,rfl,_,hg,hr⟩:=HM.out (by omega);obtain ⟨hxn,xcs,hxc,hxv⟩:=aL.at_ _ _ o hr kk hkl hkn;have hmem:v.ms[kk]∈v.ms:=List.getElem_mem hkl;have HCP:=zh (IHM.out _ hmem xcs wr (hxv.below hwb (Nat.le_refl _) hwb.size));obtain ⟨xA,xc,xB,xd,rfl, -⟩:=hxv.cells;have a0:=(hwb.cell (p:=⟨g,o+kk*6+1,none⟩) hg).trans (hxc 0 _ rfl);have a1:=(hwb.cell (p:=⟨g,o+kk*6+2,none⟩) hg).trans (hxc 1 _ rfl);have a2:=(hwb.cell (p:=⟨g,o+kk*6+3,none⟩) hg).trans (hxc 2 _ rfl);have a3:=(hwb.cell (p:=⟨g,o+kk*6+4,none⟩) hg).trans (hxc 3 _ rfl);have a4:=(hwb.cell (p:=⟨g,o+kk*6+5,none⟩) hg).trans (hxc 4 _ rfl);generalize v.ms[kk].k=xk at *;generalize v.ms[kk].n=xn at *;generalize ae v.ms[kk].s=xs at *;generalize v.ms[kk].l.length=xl at *;generalize v.ms[kk].ms.length=xm at *;clear hxv hxc hmem hr hwb hxn;go_wp2_with fail;refine HCP.out.mono ?_;rintro e w5 ⟨⟨b,rfl⟩,hb5⟩;have HB5:=zh (show Below W0.heap.size w2 w5 from hbel.out.trans (hb5.mono HBR.out.size));clear hb5 HCP;cases b
        ·go_wp2;go_ret;exact ⟨⟨false,rfl⟩,HB0.out.trans ((HBw2.out.trans HB5.out).mono HB0.out.size)⟩
        ·go_wp2;go_roundw
         case rel=>exact ⟨kk+1,by go_num,by omega,(show Below _ _ _ from HB5.out)⟩
         case measure=>simp [intOf];omega
       ·have t1:decide ((kk:Int)<(m:Int))=false:=zF (by omega);have t2:decide (kk<m)=false:=zF hlt;go_wp2;go_ret;exact ⟨⟨true,rfl⟩,HWB.out⟩
  ·have n5:decide (k=5)=false:=zF h5;by_cases hl:0<l
   ·have q1:decide ((0:Int)<(l:Int))=true:=zT (by omega);have q1b:decide (0<l)=true:=zT (by omega);go_enter Tryz.func25,Tryz.ntmps25;go_wp2;go_ret;exact ⟨⟨false,rfl⟩,(Below.refl _ _).alloc (Nat.le_refl _) _⟩
   ·have q1:decide ((0:Int)<(l:Int))=false:=zF (by omega);have q1b:decide (0<l)=false:=zF (by omega);by_cases h6:k=6
    ·subst h6;go_enter Tryz.func25,Tryz.ntmps25;go_wp2_with fail;rw [←HW0.out];clear q1 q1b hl;go_loopw [3] (fun i wr=>∃ kk:Nat,i = .int .i64 kk∧kk≤l∧Aside (Below W0.heap.size W0 wr)) (fun i _=>l-(intOf i).toNat)
     case atStart=>exact ⟨0,rfl,by omega,(show Below _ _ _ from Below.refl _ _)⟩
     case round=>
      obtain ⟨kk,rfl,hk,hbel⟩:=hrel;have hb0:Below W0.heap.size W0 wr:=HBW0.out.trans hbel.out;have HBR:=zh hb0;have hwb:Below w.heap.size w wr:=HB0.out.trans (hb0.mono HB0.out.size);have HWB:=zh hwb;obtain ⟨⟨p0,p1,p2,p3,p4⟩, -⟩:=ai ((hb0.block w.heap.size (by rw [HS0.out];omega)).trans HR0.out);clear hb0;by_cases hlt:kk<l
      ·have t1:decide ((kk:Int)<(l:Int))=true:=zT (by omega);have t2:decide (kk<l)=true:=zT hlt;have k0:(0:Int)≤(kk:Int):=by omega
       have k1:(kk:Int)<(l:Int):=by omega
       have k2:((kk:Int)).toNat=kk:=by omega
       have hkl:kk<v.l.length:=by rw [HN1.out];exact hlt
       obtain ⟨g,o,rfl,_,hg,hr⟩:=HL.out (by omega);obtain ⟨xcs,hxc,hxv⟩:=aN.at_ _ o hr kk hkl;have hmem:v.l[kk]∈v.l:=List.getElem_mem hkl;have HCP:=zh (IHL.out _ hmem xcs wr (hxv.below hwb (Nat.le_refl _) hwb.size));obtain ⟨xA,xc,xB,xd,rfl, -⟩:=hxv.cells;have a0:=(hwb.cell (p:=⟨g,o+kk*5,none⟩) hg).trans (hxc 0 _ rfl);have a1:=(hwb.cell (p:=⟨g,o+kk*5+1,none⟩) hg).trans (hxc 1 _ rfl);have a2:=(hwb.cell (p:=⟨g,o+kk*5+2,none⟩) hg).trans (hxc 2 _ rfl);have a3:=(hwb.cell (p:=⟨g,o+kk*5+3,none⟩) hg).trans (hxc 3 _ rfl);have a4:=(hwb.cell (p:=⟨g,o+kk*5+4,none⟩) hg).trans (hxc 4 _ rfl);generalize v.l[kk].k=xk at *;generalize v.l[kk].n=xn at *;generalize ae v.l[kk].s=xs at *;generalize v.l[kk].l.length=xl at *;generalize v.l[kk].ms.length=xm at *;clear hxv hxc hmem hr hwb;go_wp2_with fail;refine HCP.out.mono ?_;rintro e w5 ⟨⟨b,rfl⟩,hb5⟩;have HB5:=zh (show Below W0.heap.size W0 w5 from hbel.out.trans (hb5.mono HBR.out.size));clear hb5 HCP;cases b
       ·go_wp2;go_ret;exact ⟨⟨false,rfl⟩,HB0.out.trans ((HBW0.out.trans HB5.out).mono HB0.out.size)⟩
       ·go_wp2;go_roundw
        case rel=>exact ⟨kk+1,by go_num,by omega,(show Below _ _ _ from HB5.out)⟩
        case measure=>simp [intOf];omega
      ·have t1:decide ((kk:Int)<(l:Int))=false:=zF (by omega);have t2:decide (kk<l)=false:=zF hlt;obtain ⟨w2,hw2⟩:∃ w2,w2=wr:=⟨_,rfl⟩
       rw [←hw2] at p0 p1 p2 p3 p4 hbel HBR ⊢;have HBw2:=zh HBR.out;clear hw2 hbel hlt HBR HWB hwb;go_wp2_with fail;go_loopw [4] (fun i wr=>∃ kk:Nat,i = .int .i64 kk∧kk≤m∧Aside (Below W0.heap.size w2 wr)) (fun i _=>m-(intOf i).toNat)
       case atStart=>exact ⟨0,rfl,by omega,(show Below _ _ _ from Below.refl _ _)⟩
       case round=>
        obtain ⟨kk,rfl,hk,hbel⟩:=hrel;have hb0:Below W0.heap.size W0 wr:=HBw2.out.trans hbel.out;have HBR:=zh hb0;have hwb:Below w.heap.size w wr:=HB0.out.trans (hb0.mono HB0.out.size);have HWB:=zh hwb;obtain ⟨⟨p0,p1,p2,p3,p4⟩, -⟩:=ai ((hb0.block w.heap.size (by rw [HS0.out];omega)).trans HR0.out);clear hb0;by_cases hlt:kk<m
        ·have t1:decide ((kk:Int)<(m:Int))=true:=zT (by omega);have t2:decide (kk<m)=true:=zT hlt;have k0:(0:Int)≤(kk:Int):=by omega
         have k1:(kk:Int)<(m:Int):=by omega
         have k2:((kk:Int)).toNat=kk:=by omega
         have hkl:kk<v.ms.length:=by rw [HN2.out];exact hlt
         have hkn:kk<v.ns.length:=by rw [HNS.out];exact hkl
         obtain ⟨g,o,rfl,_,hg,hr⟩:=HM.out (by omega);obtain ⟨hxn,xcs,hxc,hxv⟩:=aL.at_ _ _ o hr kk hkl hkn;have hmem:v.ms[kk]∈v.ms:=List.getElem_mem hkl;have HCP:=zh (IHM.out _ hmem xcs wr (hxv.below hwb (Nat.le_refl _) hwb.size));obtain ⟨xA,xc,xB,xd,rfl, -⟩:=hxv.cells;have a0:=(hwb.cell (p:=⟨g,o+kk*6+1,none⟩) hg).trans (hxc 0 _ rfl);have a1:=(hwb.cell (p:=⟨g,o+kk*6+2,none⟩) hg).trans (hxc 1 _ rfl);have a2:=(hwb.cell (p:=⟨g,o+kk*6+3,none⟩) hg).trans (hxc 2 _ rfl);have a3:=(hwb.cell (p:=⟨g,o+kk*6+4,none⟩) hg).trans (hxc 3 _ rfl);have a4:=(hwb.cell (p:=⟨g,o+kk*6+5,none⟩) hg).trans (hxc 4 _ rfl);generalize v.ms[kk].k=xk at *;generalize v.ms[kk].n=xn at *;generalize ae v.ms[kk].s=xs at *;generalize v.ms[kk].l.length=xl at *;generalize v.ms[kk].ms.length=xm at *;clear hxv hxc hmem hr hwb hxn;go_wp2_with fail;refine HCP.out.mono ?_;rintro e w5 ⟨⟨b,rfl⟩,hb5⟩;have HB5:=zh (show Below W0.heap.size w2 w5 from hbel.out.trans (hb5.mono HBR.out.size));clear hb5 HCP;cases b
         ·go_wp2;go_ret;exact ⟨⟨false,rfl⟩,HB0.out.trans ((HBw2.out.trans HB5.out).mono HB0.out.size)⟩
         ·go_wp2;go_roundw
          case rel=>exact ⟨kk+1,by go_num,by omega,(show Below _ _ _ from HB5.out)⟩
          case measure=>simp [intOf];omega
        ·have t1:decide ((kk:Int)<(m:Int))=false:=zF (by omega);have t2:decide (kk<m)=false:=zF hlt;go_wp2;go_ret;exact ⟨⟨true,rfl⟩,HWB.out⟩
    ·have n6:decide (k=6)=false:=zF h6;by_cases hm:0<m
     ·have q2:decide ((0:Int)<(m:Int))=true:=zT (by omega);have q2b:decide (0<m)=true:=zT (by omega);go_enter Tryz.func25,Tryz.ntmps25;go_wp2;go_ret;exact ⟨⟨false,rfl⟩,(Below.refl _ _).alloc (Nat.le_refl _) _⟩
     ·have q2:decide ((0:Int)<(m:Int))=false:=zF (by omega);have q2b:decide (0<m)=false:=zF (by omega);go_enter Tryz.func25,Tryz.ntmps25;go_wp2_with fail;rw [←HW0.out];clear q1 q1b hl q2 q2b hm;go_loopw [3] (fun i wr=>∃ kk:Nat,i = .int .i64 kk∧kk≤l∧Aside (Below W0.heap.size W0 wr)) (fun i _=>l-(intOf i).toNat)
      case atStart=>exact ⟨0,rfl,by omega,(show Below _ _ _ from Below.refl _ _)⟩
      case round=>
       obtain ⟨kk,rfl,hk,hbel⟩:=hrel;have hb0:Below W0.heap.size W0 wr:=HBW0.out.trans hbel.out;have HBR:=zh hb0;have hwb:Below w.heap.size w wr:=HB0.out.trans (hb0.mono HB0.out.size);have HWB:=zh hwb;obtain ⟨⟨p0,p1,p2,p3,p4⟩, -⟩:=ai ((hb0.block w.heap.size (by rw [HS0.out];omega)).trans HR0.out);clear hb0;by_cases hlt:kk<l
       ·have t1:decide ((kk:Int)<(l:Int))=true:=zT (by omega);have t2:decide (kk<l)=true:=zT hlt;have k0:(0:Int)≤(kk:Int):=by omega
        have k1:(kk:Int)<(l:Int):=by omega
        have k2:((kk:Int)).toNat=kk:=by omega
        have hkl:kk<v.l.length:=by rw [HN1.out];exact hlt
        obtain ⟨g,o,rfl,_,hg,hr⟩:=HL.out (by omega);obtain ⟨xcs,hxc,hxv⟩:=aN.at_ _ o hr kk hkl;have hmem:v.l[kk]∈v.l:=List.getElem_mem hkl;have HCP:=zh (IHL.out _ hmem xcs wr (hxv.below hwb (Nat.le_refl _) hwb.size));obtain ⟨xA,xc,xB,xd,rfl, -⟩:=hxv.cells;have a0:=(hwb.cell (p:=⟨g,o+kk*5,none⟩) hg).trans (hxc 0 _ rfl);have a1:=(hwb.cell (p:=⟨g,o+kk*5+1,none⟩) hg).trans (hxc 1 _ rfl);have a2:=(hwb.cell (p:=⟨g,o+kk*5+2,none⟩) hg).trans (hxc 2 _ rfl);have a3:=(hwb.cell (p:=⟨g,o+kk*5+3,none⟩) hg).trans (hxc 3 _ rfl);have a4:=(hwb.cell (p:=⟨g,o+kk*5+4,none⟩) hg).trans (hxc 4 _ rfl);generalize v.l[kk].k=xk at *;generalize v.l[kk].n=xn at *;generalize ae v.l[kk].s=xs at *;generalize v.l[kk].l.length=xl at *;generalize v.l[kk].ms.length=xm at *;clear hxv hxc hmem hr hwb;go_wp2_with fail;refine HCP.out.mono ?_;rintro e w5 ⟨⟨b,rfl⟩,hb5⟩;have HB5:=zh (show Below W0.heap.size W0 w5 from hbel.out.trans (hb5.mono HBR.out.size));clear hb5 HCP;cases b
        ·go_wp2;go_ret;exact ⟨⟨false,rfl⟩,HB0.out.trans ((HBW0.out.trans HB5.out).mono HB0.out.size)⟩
        ·go_wp2;go_roundw
         case rel=>exact ⟨kk+1,by go_num,by omega,(show Below _ _ _ from HB5.out)⟩
         case measure=>simp [intOf];omega
       ·have t1:decide ((kk:Int)<(l:Int))=false:=zF (by omega);have t2:decide (kk<l)=false:=zF hlt;obtain ⟨w2,hw2⟩:∃ w2,w2=wr:=⟨_,rfl⟩
        rw [←hw2] at p0 p1 p2 p3 p4 hbel HBR ⊢;have HBw2:=zh HBR.out;clear hw2 hbel hlt HBR HWB hwb;go_wp2_with fail;go_loopw [4] (fun i wr=>∃ kk:Nat,i = .int .i64 kk∧kk≤m∧Aside (Below W0.heap.size w2 wr)) (fun i _=>m-(intOf i).toNat)
        case atStart=>exact ⟨0,rfl,by omega,(show Below _ _ _ from Below.refl _ _)⟩
        case round=>
         obtain ⟨kk,rfl,hk,hbel⟩:=hrel;have hb0:Below W0.heap.size W0 wr:=HBw2.out.trans hbel.out;have HBR:=zh hb0;have hwb:Below w.heap.size w wr:=HB0.out.trans (hb0.mono HB0.out.size);have HWB:=zh hwb;obtain ⟨⟨p0,p1,p2,p3,p4⟩, -⟩:=ai ((hb0.block w.heap.size (by rw [HS0.out];omega)).trans HR0.out);clear hb0;by_cases hlt:kk<m
         ·have t1:decide ((kk:Int)<(m:Int))=true:=zT (by omega);have t2:decide (kk<m)=true:=zT hlt;have k0:(0:Int)≤(kk:Int):=by omega
          have k1:(kk:Int)<(m:Int):=by omega
          have k2:((kk:Int)).toNat=kk:=by omega
          have hkl:kk<v.ms.length:=by rw [HN2.out];exact hlt
          have hkn:kk<v.ns.length:=by rw [HNS.out];exact hkl
          obtain ⟨g,o,rfl,_,hg,hr⟩:=HM.out (by omega);obtain ⟨hxn,xcs,hxc,hxv⟩:=aL.at_ _ _ o hr kk hkl hkn;have hmem:v.ms[kk]∈v.ms:=List.getElem_mem hkl;have HCP:=zh (IHM.out _ hmem xcs wr (hxv.below hwb (Nat.le_refl _) hwb.size));obtain ⟨xA,xc,xB,xd,rfl, -⟩:=hxv.cells;have a0:=(hwb.cell (p:=⟨g,o+kk*6+1,none⟩) hg).trans (hxc 0 _ rfl);have a1:=(hwb.cell (p:=⟨g,o+kk*6+2,none⟩) hg).trans (hxc 1 _ rfl);have a2:=(hwb.cell (p:=⟨g,o+kk*6+3,none⟩) hg).trans (hxc 2 _ rfl);have a3:=(hwb.cell (p:=⟨g,o+kk*6+4,none⟩) hg).trans (hxc 3 _ rfl);have a4:=(hwb.cell (p:=⟨g,o+kk*6+5,none⟩) hg).trans (hxc 4 _ rfl);generalize v.ms[kk].k=xk at *;generalize v.ms[kk].n=xn at *;generalize ae v.ms[kk].s=xs at *;generalize v.ms[kk].l.length=xl at *;generalize v.ms[kk].ms.length=xm at *;clear hxv hxc hmem hr hwb hxn;go_wp2_with fail;refine HCP.out.mono ?_;rintro e w5 ⟨⟨b,rfl⟩,hb5⟩;have HB5:=zh (show Below W0.heap.size w2 w5 from hbel.out.trans (hb5.mono HBR.out.size));clear hb5 HCP;cases b
          ·go_wp2;go_ret;exact ⟨⟨false,rfl⟩,HB0.out.trans ((HBw2.out.trans HB5.out).mono HB0.out.size)⟩
          ·go_wp2;go_roundw
           case rel=>exact ⟨kk+1,by go_num,by omega,(show Below _ _ _ from HB5.out)⟩
           case measure=>simp [intOf];omega
         ·have t1:decide ((kk:Int)<(m:Int))=false:=zF (by omega);have t2:decide (kk<m)=false:=zF hlt;go_wp2;go_ret;exact ⟨⟨true,rfl⟩,HWB.out⟩
