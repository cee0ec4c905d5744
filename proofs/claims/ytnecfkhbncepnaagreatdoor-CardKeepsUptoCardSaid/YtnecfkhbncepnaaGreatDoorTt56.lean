/- Merged: CdB CdG CdH CdI CdJ. -/
import Derived.Test.YtnecfkhbncepnaaGreatDoorTt38
import Derived.Test.YtnecfkhbncepnaaGreatDoorTt49
import Derived.Laws.EntriesVeiled
set_option maxRecDepth 100000
set_option maxHeartbeats 4000000
namespace Go.Proofs.YtnecfkhbncepnaaGreatDoor
namespace Cd
open Go.Proofs Go.RowKit Go.Lib Utf Sc Re Tr Sm
open Po (bo bx dt)
open Wo (Tl)
theorem qhd (L:List Pr) (V:Value) (N:ByteArray) (w:World) (hv:RdP w w.heap.size V L) (hfew:L.length≤100) :
  Calls Tryz.prog 42 #[V,.string N] w (fun e w'=>e = .returned (qiH (cX L N.data.toList))∧Below w.heap.size w w'):=by
 obtain ⟨W0,hW0⟩:∃ W0,W0=w.alloc (.cells #[.string ⟨#[]⟩,.int .i64 0,.string ⟨#[]⟩,.bool false,.string ⟨#[]⟩] 76):=⟨_,rfl⟩
 have HB0:=zh (show Below w.heap.size w W0 by rw [hW0];exact (Below.refl _ _).alloc (Nat.le_refl _) _);have HS0:=zh (show W0.heap.size=w.heap.size+1 by rw [hW0,qao]);have HR0:=zh (show W0.heap[w.heap.size]? = some (.cells #[.string ⟨#[]⟩,.int .i64 0,.string ⟨#[]⟩,.bool false,.string ⟨#[]⟩] 76 (0,0)) by rw [hW0];exact heap_alloc_new _ _);have HW0:=zh hW0;clear hW0;have HRD:=zh (hv.below HB0.out (Nat.le_refl _));obtain ⟨A,cp,rfl, -⟩:=hv;obtain ⟨nm,hnm⟩:∃ nm,N.data.toList=nm:=⟨_,rfl⟩
 have HNM:=zh (show N.toList=nm by rw [ByteArray.toList_eq];exact hnm);rw [hnm];clear hnm;obtain ⟨n,hn⟩:∃ n,L.length=n:=⟨_,rfl⟩
 have HN:=zh hn;have hn2:n≤100:=by omega
 rw [hn] at HRD ⊢;clear hn hfew;have HL0:=zh (show w.heap.size<W0.heap.size by rw [HS0.out];omega);go_enter Tryz.func42,Tryz.ntmps42;go_wp2_with fail;rw [←HW0.out];go_loopw [10] (fun i wr=>∃ k:Nat,i = .int .i64 (k:Int)∧k≤n∧Aside (∀ j (h:j<L.length),j<k→L[j].nm≠nm)∧Aside (Below W0.heap.size W0 wr)) (fun i _=>n-(RowKit.intOf i).toNat)
 case atStart=>exact ⟨0,rfl,by omega,(show ∀ _ _ _,_ from fun j h hj=>by omega),(show Below _ _ _ from Below.refl _ _)⟩
 case round=>
  obtain ⟨k,rfl,hk,hno,hw⟩:=hrel;have HNO:=zh hno.out;have HE:=zh hw.out;clear hno hw;have hrow:wr.heap[w.heap.size]? = some (.cells #[.string ⟨#[]⟩,.int .i64 0,.string ⟨#[]⟩,.bool false,.string ⟨#[]⟩] 76 (0,0)):=(HE.out.block _ HL0.out).trans HR0.out;have HRW:=zh hrow;by_cases hlt:k<n
  ·have t1:decide ((k:Int)<(n:Int))=true:=zT (by omega);have t2:decide (k<n)=true:=zT hlt;have k0:(0:Int)≤(k:Int):=by omega
   have k1:(k:Int)<(n:Int):=by omega
   have k2:((k:Int)).toNat=k:=by omega
   have hkL:k<L.length:=by rw [HN.out];exact hlt
   obtain ⟨g,c,hA,hg,hp5⟩:=(HRD.out.below HE.out (Nat.le_of_lt HL0.out)).at_ k hkL;injection hA with hA1 _ _
   subst hA1;obtain ⟨p0,p1,p2,p3,p4⟩:=hp5;by_cases hx:L[k].nm=nm
   ·have u1:((aa L[k].nm).toList==N.toList)=true:=by rw [ak,HNM.out,hx];exact beq_self_eq_true _
    have u2:(aa L[k].nm).toList=N.toList:=by rw [ak,HNM.out,hx]
    have HF:=zh (qnc hkL hx (fun j hj hjk=>HNO.out j hj hjk));have HV:=zh (show qiH (some L[k]) = .tuple #[.agg #[.string (aa L[k].nm),.int .i64 L[k].fm,.string (aa L[k].ar),.bool L[k].mu,.string (aa L[k].df)],.bool true] from rfl);generalize aa L[k].nm=q0 at *;generalize L[k].fm=q1 at *;generalize aa L[k].ar=q2 at *;generalize L[k].mu=q3 at *;generalize aa L[k].df=q4 at *;obtain ⟨⟨y0,y1,y2,y3,y4⟩, -⟩:=aU (heap_alloc_new wr (.cells #[.string q0,.int .i64 q1,.string q2,.bool q3,.string q4] 76));have hr2:=(heap_alloc_old wr (.cells #[.string q0,.int .i64 q1,.string q2,.bool q3,.string q4] 76) (show w.heap.size<wr.heap.size by have:=HL0.out;have:=HE.out.size;omega)).trans HRW.out;have HR2:=zh hr2;obtain ⟨⟨r0,r1,r2,r3,r4⟩,⟨e0,e1,e2,e3,e4⟩⟩:=aU hr2;clear hx hrow hr2;have HWE:=zh (show Below w.heap.size w (wr.alloc (.cells #[.string q0,.int .i64 q1,.string q2,.bool q3,.string q4] 76)) from (HB0.out.trans (HE.out.mono HB0.out.size)).alloc (by have:=HL0.out;have:=HE.out.size;omega) _);go_wp2;refine bodyPost_ret (qru rfl rfl rfl (qph HR2.out (.string q0) (.int .i64 q1) (.string q2) (.bool q3) (.string q4))) rfl ?_;exact ⟨by rw [HF.out,HV.out];rfl,qih HWE.out (Nat.le_refl _) _ _ _ _ _⟩
   ·have u1:((aa L[k].nm).toList==N.toList)=false:=by rw [ak,HNM.out];exact beq_eq_false_iff_ne.2 hx
    have u2:¬(aa L[k].nm).toList=N.toList:=by rw [ak,HNM.out];exact hx
    have HNX:=zh (show ∀ j (h:j<L.length),j<k+1→L[j].nm≠nm from fun j h hj=>by
     by_cases e:j=k
     ·subst e;exact hx
     ·exact HNO.out j h (by omega))
    generalize aa L[k].nm=q0 at *;generalize L[k].fm=q1 at *;generalize aa L[k].ar=q2 at *;generalize L[k].mu=q3 at *;generalize aa L[k].df=q4 at *;obtain ⟨⟨y0,y1,y2,y3,y4⟩, -⟩:=aU (heap_alloc_new wr (.cells #[.string q0,.int .i64 q1,.string q2,.bool q3,.string q4] 76));have HE2:=zh (show Below W0.heap.size W0 (wr.alloc (.cells #[.string q0,.int .i64 q1,.string q2,.bool q3,.string q4] 76)) from HE.out.alloc HE.out.size _);clear hx hrow;go_wp2_with fail;go_roundw
    case rel=>exact ⟨k+1,by go_num,by omega,HNX.out,HE2.out⟩
    case measure=>simp [RowKit.intOf];omega
  ·have t1:decide ((k:Int)<(n:Int))=false:=zF (by omega);have t2:decide (k<n)=false:=zF hlt;have HF:=zh (qlE (L:=L) (n:=nm) (fun j hj=>HNO.out j hj (by rw [HN.out] at hj;omega)));obtain ⟨⟨r0,r1,r2,r3,r4⟩,⟨e0,e1,e2,e3,e4⟩⟩:=aU hrow;clear hrow;have HWE:=zh (show Below w.heap.size w wr from HB0.out.trans (HE.out.mono HB0.out.size));go_wp2;refine bodyPost_ret (qru rfl rfl rfl (qph HRW.out (.string ⟨#[]⟩) (.int .i64 0) (.string ⟨#[]⟩) (.bool false) (.string ⟨#[]⟩))) rfl ?_;exact ⟨by rw [HF.out];rfl,qih HWE.out (Nat.le_refl _) _ _ _ _ _⟩
end Cd
namespace Cd
open Go.Proofs Go.RowKit Go.Lib Utf Sc Re Tr
open Sm (Pr RdP af cX)
open Wo (Tl)
structure Rdy (W:World) (of:List UInt8) (b1 b3 b4:Nat):Prop where
 l1:b1<W.heap.size
 l3:b3<W.heap.size
 l4:b4<W.heap.size
 c1:W.cell? ⟨b1,0,none⟩=some (.string (aa of))
 c3:∃ P,W.cell? ⟨b3,0,none⟩=some P∧RdP W W.heap.size P (af of)
 c4:W.cell? ⟨b4,0,none⟩=some (.func (.func 149) #[] #[.pointer (some ⟨b1,0,none⟩),.pointer (some ⟨b3,0,none⟩)])
theorem Rdy.below {W W':World} {of:List UInt8} {b1 b3 b4:Nat} (h:Rdy W of b1 b3 b4) (hb:Below W.heap.size W W'):Rdy W' of b1 b3 b4 where
 l1:=Nat.lt_of_lt_of_le h.l1 hb.size
 l3:=Nat.lt_of_lt_of_le h.l3 hb.size
 l4:=Nat.lt_of_lt_of_le h.l4 hb.size
 c1:=(hb.cell (p:=⟨b1,0,none⟩) h.l1).trans h.c1
 c3:=by
  obtain ⟨P,h1,h2⟩:=h.c3;exact ⟨P,(hb.cell (p:=⟨b3,0,none⟩) h.l3).trans h1,(h2.below hb (Nat.le_refl _)).more hb.size⟩
 c4:=(hb.cell (p:=⟨b4,0,none⟩) h.l4).trans h.c4
def qqp (of:List UInt8) (w:World) (e:Ending) (w':World):Prop:=
 ∃ b1 b3 b4,e = .returned (.func (.func 150) #[] #[.pointer (some ⟨b3,0,none⟩),.pointer (some ⟨b4,0,none⟩)])∧Rdy w' of b1 b3 b4∧Below w.heap.size w w'
theorem fc (w:World) (x:Value) (t:Nat):(w.alloc (.cells #[x] t)).cell? ⟨w.heap.size,0,none⟩=some x:=by
 unfold World.cell?;rw [ag];rfl
theorem eu (of:List UInt8) (w:World):Calls Tryz.prog 87 #[.string (aa of)] w (qqp of w):=by
 have HP:=zh (fun W=>Sm.qbA (aa of) W);rw [aD] at HP;obtain ⟨X,hX⟩:∃ X,aa of=X:=⟨_,rfl⟩
 have HX:=zh hX;rw [hX] at HP ⊢;clear hX;obtain ⟨W0,hW0⟩:∃ W0,W0=w.alloc (.cells #[.string X] 9):=⟨_,rfl⟩
 have HB0:=zh (show Below w.heap.size w W0 by rw [hW0];exact aO _ _);have HS0:=zh (show W0.heap.size=w.heap.size+1 by rw [hW0,aF]);have hc0:(w.alloc (.cells #[.string X] 9)).cell? ⟨w.heap.size,0,none⟩=some (.string X):=fc _ _ _;have HC0:=zh (show W0.cell? ⟨w.heap.size,0,none⟩=some (.string X) by rw [hW0];exact hc0);have HW0:=zh hW0;clear hW0;go_enter Tryz.func87,Tryz.ntmps87;go_wp2_with fail;rw [←HW0.out];refine (HP.out _).mono ?_;rintro e w1 ⟨P,rfl,hown,hb⟩;have HRP:=zh (Sm.RdP.of_own hown);have HB1:=zB hb HB0;have HC1:=zh ((hb.cell (p:=⟨w.heap.size,0,none⟩) (by show w.heap.size<_;rw [HS0.out];exact Nat.lt_succ_self _)).trans HC0.out);have HS1:=zh (show w.heap.size<w1.heap.size by have:=hb.size;rw [HS0.out] at this;exact this);obtain ⟨A,cp,rfl, -⟩:=HRP.out;generalize (af of).length=q at *;clear hown hb hc0;obtain ⟨W1,hW1⟩:∃ W1,W1=w1.alloc (.cells #[.slice A q cp] 48):=⟨_,rfl⟩
 have HE1:=zh (show Below w1.heap.size w1 W1 by rw [hW1];exact aO _ _);have HT1:=zh (show W1.heap.size=w1.heap.size+1 by rw [hW1,aF]);have hd0:(w1.alloc (.cells #[.slice A q cp] 48)).cell? ⟨w1.heap.size,0,none⟩=some (.slice A q cp):=fc _ _ _;have HD1:=zh (show W1.cell? ⟨w1.heap.size,0,none⟩=some (.slice A q cp) by rw [hW1];exact hd0);obtain ⟨W2,hW2⟩:∃ W2,W2=W1.alloc (.cells #[.func (.func 149) #[] #[.pointer (some ⟨w.heap.size,0,none⟩),.pointer (some ⟨w1.heap.size,0,none⟩)]] 92):=⟨_,rfl⟩
 have HE2:=zh (show Below W1.heap.size W1 W2 by rw [hW2];exact aO _ _);have HT2:=zh (show W2.heap.size=W1.heap.size+1 by rw [hW2,aF]);have HD2:=zh (show W2.cell? ⟨W1.heap.size,0,none⟩=some (.func (.func 149) #[] #[.pointer (some ⟨w.heap.size,0,none⟩),.pointer (some ⟨w1.heap.size,0,none⟩)]) by rw [hW2];exact fc _ _ _);have HW1:=zh hW1;have HW2:=zh hW2;clear hW1 hW2;have HF:=zh (show Rdy W2 of w.heap.size w1.heap.size W1.heap.size∧Below w.heap.size w W2 from by
  have hb12:Below w1.heap.size w1 W2:=HE1.out.trans (HE2.out.mono HE1.out.size);have hs:=HT1.out;have hs2:=HT2.out;have hs1:=HS1.out;refine ⟨⟨by omega,by omega,by omega,?_,⟨.slice A q cp,?_,?_⟩,HD2.out⟩,HB1.out.trans (hb12.mono HB1.out.size)⟩
  ·rw [HX.out];exact (hb12.cell (p:=⟨w.heap.size,0,none⟩) hs1).trans HC1.out
  ·exact (HE2.out.cell (p:=⟨w1.heap.size,0,none⟩) (by show w1.heap.size<_;omega)).trans HD1.out
  ·exact (HRP.out.below hb12 (Nat.le_refl _)).more hb12.size)
 go_upto_region 2 with fail;rw [←HW1.out];go_wp2_with fail;rw [←HW2.out];go_ret;exact ⟨_,_,_,rfl,HF.out.1,HF.out.2⟩
def FnV (h:Nat) (w:World) (f:FuncId) (caps:Array Value) (p:V→Bool):Prop:=
 (∀ args w,(callFunc f args).run Tryz.prog w = .ok (.enter f args) w)∧∀ (x:V) (cs:List Value) (W:World),ht x<h→Below w.heap.size w W→RdA W 0 W.heap.size x cs→szA 4611686018427387904 x→Calls Tryz.prog f (#[.agg cs.toArray]++caps) W (Tl (p x) W)
theorem qkE (h:Nat) (w:World):FnV h w 89 #[] qiQ:=⟨enters_of Tryz.func89 (by kernel_rfl) rfl,fun x cs W _ _ hx _=>by
 obtain ⟨A,c,A2,d,rfl, -⟩:=hx.cells;exact qjq x.k x.n (aa x.s) A A2 x.l.length c x.ms.length d W⟩
theorem qji (k n:Int) (S:ByteArray) (A A2:Option Addr) (l c m d:Nat) (b:Nat) (f:FuncId) (caps:Array Value) (r:Bool) (W:World) (hb:W.cell? ⟨b,0,none⟩=some (.func (.func f) #[] caps)) (hbl:b<W.heap.size)
  (en:∀ args w,(callFunc f args).run Tryz.prog w = .ok (.enter f args) w)
  (hf:∀ U,Below W.heap.size W U→Calls Tryz.prog f (#[.agg #[.int .i64 k,.int .i64 n,.string S,.slice A l c,.slice A2 m d]]++caps) U (Tl r U)) :
  Calls Tryz.prog 147 #[.agg #[.int .i64 k,.int .i64 n,.string S,.slice A l c,.slice A2 m d],.pointer (some ⟨b,0,none⟩)] W (Tl (!r) W):=by
 obtain ⟨W0,hW0⟩:∃ W0,W0=W.alloc (.cells #[.int .i64 k,.int .i64 n,.string S,.slice A l c,.slice A2 m d] 25):=⟨_,rfl⟩
 have HB0:=zh (show Below W.heap.size W W0 by rw [hW0];exact aO _ _);have hc:W0.cell? ⟨b,0,none⟩=some (.func (.func f) #[] caps):=(HB0.out.cell (p:=⟨b,0,none⟩) hbl).trans hb;rw [hW0] at hc;obtain ⟨⟨p0,p1,p2,p3,p4⟩, -⟩:=ae (ag W (.cells #[.int .i64 k,.int .i64 n,.string S,.slice A l c,.slice A2 m d] 25));have HF:=zh (hf _ HB0.out);have HW0:=zh hW0;clear hf hb hW0;go_enter Tryz.func147,Tryz.ntmps147;go_wp2_with fail;rw [←HW0.out];refine HF.out.mono ?_;rintro e w1 ⟨rfl,h1⟩;have HB:=zh (HB0.out.trans (h1.mono HB0.out.size));clear h1 p0 p1 p2 p3 p4 hc;go_wp2_with fail;go_ret;exact ⟨rfl,HB.out⟩
theorem qgP {α : Type} (l:List α) (p : α →Bool):(!(l.any fun x=> !p x))=l.all p:=by
 induction l with
 | nil=>rfl
 | cons a r ih=>rw [List.any_cons,List.all_cons,←ih];cases p a <;> simp
theorem qgy {h:Nat} {w:World} {f:FuncId} {caps:Array Value} {p:V→Bool} (hf:FnV h w f caps p) (v:V) (cs:List Value) (W:World) (hh:ht v≤h) (hW:Below w.heap.size w W) (hv:RdA W 0 W.heap.size v cs) (hz:szA 4611686018427387904 v) :
  Calls Tryz.prog 86 #[.agg cs.toArray,.func (.func f) #[] caps] W (Tl (decide (v.k=5)&&v.l.all p) W):=by
 obtain ⟨A,c,A2,d,rfl, -,hl, -⟩:=hv.cells;obtain ⟨-, -, -,z4, -, -,z7, -⟩:=(cI _ v).1 hz;obtain ⟨W0,hW0⟩:∃ W0,W0=(W.alloc (.cells #[.int .i64 v.k,.int .i64 v.n,.string (aa v.s),.slice A v.l.length c,.slice A2 v.ms.length d] 25)).alloc (.cells #[.func (.func f) #[] caps] 27):=⟨_,rfl⟩
 have HB0:=zh (show Below W.heap.size W W0 by rw [hW0];exact (aO _ _).alloc (by rw [aF];exact Nat.le_succ _) _);have HS0:=zh (show W0.heap.size=W.heap.size+2 by rw [hW0,aF,aF]);have HV0:=zh (show W0.heap[W.heap.size]? = some (.cells #[.int .i64 v.k,.int .i64 v.n,.string (aa v.s),.slice A v.l.length c,.slice A2 v.ms.length d] 25 (0,0)) by rw [hW0];exact (Below.heap_alloc _ _ _ (by rw [aF];exact Nat.lt_succ_self _)).trans (ag _ _));have HC0:=zh (show W0.cell? ⟨W.heap.size+1,0,none⟩=some (.func (.func f) #[] caps) by rw [hW0];have:=fc (W.alloc (.cells #[.int .i64 v.k,.int .i64 v.n,.string (aa v.s),.slice A v.l.length c,.slice A2 v.ms.length d] 25)) (.func (.func f) #[] caps) 27;rwa [aF] at this);have HW0:=zh hW0;have HCF:=zh (show Calls Tryz.prog 148 #[.slice A v.l.length c,.func (.func 147) #[] #[.pointer (some ⟨W.heap.size+1,0,none⟩)]] W0 (Tl (v.l.any fun x=> !p x) W0) by
  have e:=qfK v.l (fun x=> !p x) (fun i=> !p (v.l.getD i V0)) (fun i hi=>by simp only [List.getD_eq_getElem?_getD,List.getElem?_eq_getElem hi,Option.getD_some]);rw [←e];refine qfa A v.l.length c (by omega) 147 #[.pointer (some ⟨W.heap.size+1,0,none⟩)] _ W0 (enters_of Tryz.func147 (by kernel_rfl) rfl) (fun i hi U hU=>?_);obtain ⟨g,o,rfl, -,hg,hr⟩:=hl (by omega);obtain ⟨cs,hcell,hx⟩:=hr.at_ v.l o i hi;have hWU:Below W.heap.size W U:=HB0.out.trans (hU.mono HB0.out.size);have hx':=hx.below hWU (Nat.le_refl _) hWU.size;have hxU:∀ U',Below U.heap.size U U'→RdA U' 0 U'.heap.size v.l[i] cs:=fun U' h'=>hx'.below h' (Nat.le_refl _) h'.size;obtain ⟨B,e1,B2,e2,rfl, -⟩:=hx.cells;have hc:∀ j u,([Value.int .i64 v.l[i].k,.int .i64 v.l[i].n,.string (aa v.l[i].s),.slice B v.l[i].l.length e1,.slice B2 v.l[i].ms.length e2]:List Value)[j]? = some u→U.cell? ⟨g,o+i*5+j,none⟩=some u:=fun j u hu=>(hWU.cell (p:=⟨g,o+i*5+j,none⟩) hg).trans (hcell j u hu);refine ⟨g,o,v.l[i].k,v.l[i].n,aa v.l[i].s,B,v.l[i].l.length,e1,B2,v.l[i].ms.length,e2,rfl,⟨hc 0 _ rfl,hc 1 _ rfl,hc 2 _ rfl,hc 3 _ rfl,hc 4 _ rfl⟩,?_⟩;have hcU:U.cell? ⟨W.heap.size+1,0,none⟩=some (.func (.func f) #[] caps):=(hU.cell (p:=⟨W.heap.size+1,0,none⟩) (by show W.heap.size+1<W0.heap.size;rw [HS0.out];omega)).trans HC0.out;have:=qji v.l[i].k v.l[i].n (aa v.l[i].s) B B2 v.l[i].l.length e1 v.l[i].ms.length e2 (W.heap.size+1) f caps (p v.l[i]) U hcU (by have:=hU.size;rw [HS0.out] at this;omega) hf.1
   (fun U' h'=>hf.2 v.l[i] _ U' (Nat.lt_of_lt_of_le (qq4 (List.getElem_mem hi)) hh) (hW.trans ((hWU.trans (h'.mono hWU.size)).mono hW.size)) (hxU U' h') (aV z7 (List.getElem_mem hi)))
  rw [show v.l.getD i V0=v.l[i] by rw [List.getD_eq_getElem?_getD,List.getElem?_eq_getElem hi];rfl];exact this)
 have HNA:=zh (qgP v.l p);rw [←HNA.out];generalize (v.l.any fun x=> !p x)=r at *;generalize v.k=k at *;generalize v.n=n at *;generalize aa v.s=S at *;generalize v.l.length=l at *;generalize v.ms.length=m at *;clear hf hh hW hv hz hl z4 z7 hW0;by_cases hk:k=5
 ·subst hk;rw [decide_eq_true rfl,Bool.true_and];go_enter Tryz.func86,Tryz.ntmps86;have q:=HV0.out;rw [HW0.out] at q;obtain ⟨⟨p0,p1,p2,p3,p4⟩, -⟩:=ae q;clear q;go_wp2_with fail;rw [←HW0.out];refine HCF.out.mono ?_;rintro e w1 ⟨rfl,h1⟩;have HB:=zh (HB0.out.trans (h1.mono HB0.out.size));clear h1 p0 p1 p2 p3 p4;go_wp2_with fail;go_ret;exact ⟨rfl,HB.out⟩
 ·rw [zF hk,Bool.false_and];have t1:(k==5)=false:=beq_eq_false_iff_ne.2 hk;go_enter Tryz.func86,Tryz.ntmps86;have q:=HV0.out;rw [HW0.out] at q;obtain ⟨⟨p0,p1,p2,p3,p4⟩, -⟩:=ae q;clear q;go_wp2_with fail;go_ret;exact ⟨rfl,by rw [←HW0.out];exact HB0.out⟩
theorem cH {w:World} {b t:Nat} {u0 u1 u2 u3 u4 u5:Value} (h:w.heap[b]? = some (.cells #[u0,u1,u2,u3,u4,u5] t (0,0))) :
  w.cell? ⟨b,0,none⟩=some u0∧w.cell? ⟨b,1,none⟩=some u1∧w.cell? ⟨b,2,none⟩=some u2∧w.cell? ⟨b,3,none⟩=some u3∧w.cell? ⟨b,4,none⟩=some u4∧w.cell? ⟨b,5,none⟩=some u5:=by
 refine ⟨?_,?_,?_,?_,?_,?_⟩ <;> simp [World.cell?,h]
theorem qlI (X:ByteArray) (k n:Int) (S:ByteArray) (A A2:Option Addr) (l c m d:Nat) (b4 b5:Nat) (f g:FuncId) (cf cg:Array Value) (a r:Bool) (W:World)
  (h4:W.cell? ⟨b4,0,none⟩=some (.func (.func f) #[] cf)) (l4:b4<W.heap.size) (h5:W.cell? ⟨b5,0,none⟩=some (.func (.func g) #[] cg)) (l5:b5<W.heap.size)
  (en:∀ args w,(callFunc f args).run Tryz.prog w = .ok (.enter f args) w) (em:∀ args w,(callFunc g args).run Tryz.prog w = .ok (.enter g args) w)
  (hf:∀ U,Below W.heap.size W U→Calls Tryz.prog f (#[.string X]++cf) U (Tl a U))
  (hg:∀ U,Below W.heap.size W U→Calls Tryz.prog g (#[.agg #[.int .i64 k,.int .i64 n,.string S,.slice A l c,.slice A2 m d]]++cg) U (Tl r U)) :
  Calls Tryz.prog 152 #[.agg #[.string X,.int .i64 k,.int .i64 n,.string S,.slice A l c,.slice A2 m d],.pointer (some ⟨b4,0,none⟩),.pointer (some ⟨b5,0,none⟩)] W (Tl (!(a&&r)) W):=by
 obtain ⟨W0,hW0⟩:∃ W0,W0=W.alloc (.cells #[.string X,.int .i64 k,.int .i64 n,.string S,.slice A l c,.slice A2 m d] 44):=⟨_,rfl⟩
 have HB0:=zh (show Below W.heap.size W W0 by rw [hW0];exact aO _ _);have HR0:=zh (show W0.heap[W.heap.size]? = some (.cells #[.string X,.int .i64 k,.int .i64 n,.string S,.slice A l c,.slice A2 m d] 44 (0,0)) by rw [hW0];exact ag _ _);have HS0:=zh (show W0.heap.size=W.heap.size+1 by rw [hW0,aF]);have H4:=zh (show W0.cell? ⟨b4,0,none⟩=some (.func (.func f) #[] cf) from (HB0.out.cell (p:=⟨b4,0,none⟩) l4).trans h4);have H5:=zh (show W0.cell? ⟨b5,0,none⟩=some (.func (.func g) #[] cg) from (HB0.out.cell (p:=⟨b5,0,none⟩) l5).trans h5);have HL5:=zh (show b5<W0.heap.size by rw [HS0.out];omega);have hc4:=H4.out;rw [hW0] at hc4;obtain ⟨p0,p1,p2,p3,p4,p5⟩:=cH (ag W (.cells #[.string X,.int .i64 k,.int .i64 n,.string S,.slice A l c,.slice A2 m d] 44));have HF:=zh (hf _ HB0.out);have HG:=zh hg;have HW0:=zh hW0;clear hf hg h4 h5 hW0 l4 l5;cases a with
 | false=>
  go_enter Tryz.func152,Tryz.ntmps152;go_wp2_with fail;rw [←HW0.out];refine HF.out.mono ?_;rintro e w1 ⟨rfl,h1⟩;have HB:=zh (HB0.out.trans (h1.mono HB0.out.size));clear h1 p0 p1 p2 p3 p4 p5 hc4;go_wp2_with fail;go_ret;exact ⟨rfl,HB.out⟩
 | true=>
  rw [Bool.true_and];go_enter Tryz.func152,Tryz.ntmps152;go_wp2_with fail;rw [←HW0.out];refine HF.out.mono ?_;rintro e w1 ⟨rfl,h1⟩;have HB:=zh (HB0.out.trans (h1.mono HB0.out.size));have hr:=(h1.block W.heap.size (by rw [HS0.out];exact Nat.lt_succ_self _)).trans HR0.out;have hc5:=(h1.cell (p:=⟨b5,0,none⟩) HL5.out).trans H5.out;clear h1 p0 p1 p2 p3 p4 p5 hc4;obtain ⟨p0,p1,p2,p3,p4,p5⟩:=cH hr;clear hr;go_wp2_with fail;refine (HG.out _ HB.out).mono ?_;rintro e w2 ⟨rfl,h1⟩;have HB2:=zh (HB.out.trans (h1.mono HB.out.size));clear h1 p0 p1 p2 p3 p4 p5 hc5;go_wp2_with fail;go_ret;exact ⟨rfl,HB2.out⟩
theorem qkn {ns:List (List UInt8)} {ms:List V} (hn:ns.length=ms.length) (p:List UInt8×V→Bool) (q:Nat→Bool) (h:∀ i (h1:i<ns.length) (h2:i<ms.length),q i=p (ns[i],ms[i])):(List.range ms.length).any q=(ns.zip ms).any p:=by
 have hl:(ns.zip ms).length=ms.length:=by rw [List.length_zip];omega
 rw [←hl];refine qfK _ p q fun i hi=>?_;rw [List.getElem_zip];exact h i (by omega) (by omega)
theorem ek {h:Nat} {w:World} {f g:FuncId} {cf cg:Array Value} {pn:List UInt8→Bool} {p:V→Bool} (hf:FnS w f cf pn) (hg:FnV h w g cg p) (v:V) (cs:List Value) (W:World) (hh:ht v≤h) (hW:Below w.heap.size w W) (hv:RdA W 0 W.heap.size v cs) (hz:szA 4611686018427387904 v) :
  Calls Tryz.prog 88 #[.agg cs.toArray,.func (.func f) #[] cf,.func (.func g) #[] cg] W (Tl (decide (v.k=6)&&(mem v).all fun m=>pn m.1&&p m.2) W):=by
 obtain ⟨A,c,A2,d,rfl,hn, -,hl⟩:=hv.cells;obtain ⟨-, -, -, -,z5,z6, -,z8⟩:=(cI _ v).1 hz;have V5c:True:=trivial;obtain ⟨W0,hW0⟩:∃ W0,W0=((W.alloc (.cells #[.int .i64 v.k,.int .i64 v.n,.string (aa v.s),.slice A v.l.length c,.slice A2 v.ms.length d] 25)).alloc (.cells #[.func (.func f) #[] cf] 84)).alloc (.cells #[.func (.func g) #[] cg] 27):=⟨_,rfl⟩
 obtain ⟨Wa,hWa⟩:∃ Wa,Wa=W.alloc (.cells #[.int .i64 v.k,.int .i64 v.n,.string (aa v.s),.slice A v.l.length c,.slice A2 v.ms.length d] 25):=⟨_,rfl⟩
 obtain ⟨Wb,hWb⟩:∃ Wb,Wb=Wa.alloc (.cells #[.func (.func f) #[] cf] 84):=⟨_,rfl⟩
 have hW0b:W0=Wb.alloc (.cells #[.func (.func g) #[] cg] 27):=by rw [hW0,hWb,hWa]
 have sa:Wa.heap.size=W.heap.size+1:=by rw [hWa,aF]
 have sb:Wb.heap.size=W.heap.size+2:=by rw [hWb,aF,sa]
 have s0:W0.heap.size=W.heap.size+3:=by rw [hW0b,aF,sb]
 have ba:Below W.heap.size W Wa:=by rw [hWa];exact aO _ _
 have bb:Below Wa.heap.size Wa Wb:=by rw [hWb];exact aO _ _
 have b0:Below Wb.heap.size Wb W0:=by rw [hW0b];exact aO _ _
 have bA0:Below Wa.heap.size Wa W0:=bb.trans (b0.mono bb.size);have HB0:=zh (show Below W.heap.size W W0 from ba.trans (bA0.mono ba.size));have HS0:=zh s0;have HV0:=zh (show W0.heap[W.heap.size]? = some (.cells #[.int .i64 v.k,.int .i64 v.n,.string (aa v.s),.slice A v.l.length c,.slice A2 v.ms.length d] 25 (0,0)) from (bA0.block W.heap.size (by rw [sa];exact Nat.lt_succ_self _)).trans (by rw [hWa];exact ag _ _));have HC4:=zh (show W0.cell? ⟨W.heap.size+1,0,none⟩=some (.func (.func f) #[] cf) from (b0.cell (p:=⟨W.heap.size+1,0,none⟩) (by show W.heap.size+1<Wb.heap.size;omega)).trans (by rw [hWb,←sa];exact fc _ _ _));have HC5:=zh (show W0.cell? ⟨W.heap.size+2,0,none⟩=some (.func (.func g) #[] cg) by rw [hW0b,←sb];exact fc _ _ _);have HW0:=zh hW0;clear hW0b hWb hWa ba bb b0 bA0 sa sb s0 V5c;have HCF:=zh (show Calls Tryz.prog 151 #[.slice A2 v.ms.length d,.func (.func 152) #[] #[.pointer (some ⟨W.heap.size+1,0,none⟩),.pointer (some ⟨W.heap.size+2,0,none⟩)]] W0 (Tl ((mem v).any fun m=> !(pn m.1&&p m.2)) W0) by
  have e:=qkn hn (fun m=> !(pn m.1&&p m.2)) (fun i=> !(pn (v.ns.getD i [])&&p (v.ms.getD i V0))) (fun i h1 h2=>by simp only [List.getD_eq_getElem?_getD,List.getElem?_eq_getElem h1,List.getElem?_eq_getElem h2,Option.getD_some]);rw [show mem v=v.ns.zip v.ms from rfl,←e];refine qbs A2 v.ms.length d (by omega) 152 #[.pointer (some ⟨W.heap.size+1,0,none⟩),.pointer (some ⟨W.heap.size+2,0,none⟩)] _ W0 (enters_of Tryz.func152 (by kernel_rfl) rfl) (fun i hi U hU=>?_);have hin:i<v.ns.length:=by omega
  obtain ⟨g0,o,rfl, -,hg0,hr⟩:=hl (by omega);obtain ⟨hcn,cs,hcell,hx⟩:=hr.at_ v.ms v.ns o i hi hin;have hWU:Below W.heap.size W U:=HB0.out.trans (hU.mono HB0.out.size);have hx':=hx.below hWU (Nat.le_refl _) hWU.size;have hxU:∀ U',Below U.heap.size U U'→RdA U' 0 U'.heap.size v.ms[i] cs:=fun U' h'=>hx'.below h' (Nat.le_refl _) h'.size;obtain ⟨B,e1,B2,e2,rfl, -⟩:=hx.cells;have hc:∀ j u,([Value.int .i64 v.ms[i].k,.int .i64 v.ms[i].n,.string (aa v.ms[i].s),.slice B v.ms[i].l.length e1,.slice B2 v.ms[i].ms.length e2]:List Value)[j]? = some u→U.cell? ⟨g0,o+i*6+1+j,none⟩=some u:=fun j u hu=>(hWU.cell (p:=⟨g0,o+i*6+1+j,none⟩) hg0).trans (hcell j u hu);refine ⟨g0,o,aa v.ns[i],v.ms[i].k,v.ms[i].n,aa v.ms[i].s,B,v.ms[i].l.length,e1,B2,v.ms[i].ms.length,e2,rfl,⟨(hWU.cell (p:=⟨g0,o+i*6,none⟩) hg0).trans hcn,hc 0 _ rfl,hc 1 _ rfl,hc 2 _ rfl,hc 3 _ rfl,hc 4 _ rfl⟩,?_⟩;have us:=hU.size;rw [HS0.out] at us;have hc4:U.cell? ⟨W.heap.size+1,0,none⟩=some (.func (.func f) #[] cf):=(hU.cell (p:=⟨W.heap.size+1,0,none⟩) (by show W.heap.size+1<W0.heap.size;rw [HS0.out];omega)).trans HC4.out;have hc5:U.cell? ⟨W.heap.size+2,0,none⟩=some (.func (.func g) #[] cg):=(hU.cell (p:=⟨W.heap.size+2,0,none⟩) (by show W.heap.size+2<W0.heap.size;rw [HS0.out];omega)).trans HC5.out;have hwU:∀ U',Below U.heap.size U U'→Below w.heap.size w U':=fun U' h'=>hW.trans ((hWU.trans (h'.mono hWU.size)).mono hW.size);have:=qlI (aa v.ns[i]) v.ms[i].k v.ms[i].n (aa v.ms[i].s) B B2 v.ms[i].l.length e1 v.ms[i].ms.length e2 (W.heap.size+1) (W.heap.size+2) f g cf cg (pn v.ns[i]) (p v.ms[i]) U hc4 (by omega) hc5 (by omega) hf.1 hg.1
   (fun U' h'=>hf.2 (aa v.ns[i]) U' (by have:=z6 _ (List.getElem_mem hin);rw [al];omega) (hwU U' h'))
   (fun U' h'=>hg.2 v.ms[i] _ U' (Nat.lt_of_lt_of_le (qdm (List.getElem_mem hi)) hh) (hwU U' h') (hxU U' h') (aV z8 (List.getElem_mem hi)))
  rw [show v.ms.getD i V0=v.ms[i] by rw [List.getD_eq_getElem?_getD,List.getElem?_eq_getElem hi];rfl,show v.ns.getD i []=v.ns[i] by rw [List.getD_eq_getElem?_getD,List.getElem?_eq_getElem hin];rfl];exact this)
 have HNA:=zh (qgP (mem v) fun m=>pn m.1&&p m.2);rw [←HNA.out];generalize ((mem v).any fun m=> !(pn m.1&&p m.2))=r at *;generalize v.k=k at *;generalize v.n=n at *;generalize aa v.s=S at *;generalize v.l.length=l at *;generalize v.ms.length=m at *;clear hf hg hh hW hv hz hl z5 z6 z8 hW0;by_cases hk:k=6
 ·subst hk;rw [decide_eq_true rfl,Bool.true_and];go_enter Tryz.func88,Tryz.ntmps88;have q:=HV0.out;rw [HW0.out] at q;obtain ⟨⟨p0,p1,p2,p3,p4⟩, -⟩:=ae q;clear q;go_wp2_with fail;rw [←HW0.out];refine HCF.out.mono ?_;rintro e w1 ⟨rfl,h1⟩;have HB:=zh (HB0.out.trans (h1.mono HB0.out.size));clear h1 p0 p1 p2 p3 p4;go_wp2_with fail;go_ret;exact ⟨rfl,HB.out⟩
 ·rw [zF hk,Bool.false_and];have t1:(k==6)=false:=beq_eq_false_iff_ne.2 hk;go_enter Tryz.func88,Tryz.ntmps88;have q:=HV0.out;rw [HW0.out] at q;obtain ⟨⟨p0,p1,p2,p3,p4⟩, -⟩:=ae q;clear q;go_wp2_with fail;go_ret;exact ⟨rfl,by rw [←HW0.out];exact HB0.out⟩
def R2C (h:Nat):Prop:=∀ (of:List UInt8) (v:V) (cs:List Value) (b1 b3 b4:Nat) (W:World),ht v<h→St.Tab W→Rdy W of b1 b3 b4→RdA W 0 W.heap.size v cs→szA 4611686018427387904 v→
 Calls Tryz.prog 150 #[.agg cs.toArray,.pointer (some ⟨b3,0,none⟩),.pointer (some ⟨b4,0,none⟩)] W (Tl (aI of v) W)
def qsb (h:Nat):Prop:=∀ (of:List UInt8) (v:V) (cs:List Value) (W:World),ht v<h→St.Tab W→RdA W 0 W.heap.size v cs→szA 4611686018427387904 v→
 Calls Tryz.prog 85 #[.string (aa of),.agg cs.toArray] W (Tl (aI of v) W)
theorem qtZ:∀ args w,(callFunc 150 args).run Tryz.prog w = .ok (.enter 150 args) w:=enters_of Tryz.func150 (by kernel_rfl) rfl
theorem qeY {W u u':World} {b:Nat} {c0 c1 c2 c3 c4:Value} (h:Below W.heap.size W u∧u.cell? ⟨b,0,none⟩=some c0∧u.cell? ⟨b,1,none⟩=some c1∧u.cell? ⟨b,2,none⟩=some c2∧u.cell? ⟨b,3,none⟩=some c3∧u.cell? ⟨b,4,none⟩=some c4) (hb:Below u.heap.size u u') (hl:b<W.heap.size) :
  Below W.heap.size W u'∧u'.cell? ⟨b,0,none⟩=some c0∧u'.cell? ⟨b,1,none⟩=some c1∧u'.cell? ⟨b,2,none⟩=some c2∧u'.cell? ⟨b,3,none⟩=some c3∧u'.cell? ⟨b,4,none⟩=some c4:=by
 obtain ⟨h0,h1,h2,h3,h4,h5⟩:=h;have hlt:b<u.heap.size:=Nat.lt_of_lt_of_le hl h0.size;exact ⟨h0.trans (hb.mono h0.size),(hb.cell (p:=⟨b,0,none⟩) hlt).trans h1,(hb.cell (p:=⟨b,1,none⟩) hlt).trans h2,(hb.cell (p:=⟨b,2,none⟩) hlt).trans h3,(hb.cell (p:=⟨b,3,none⟩) hlt).trans h4,(hb.cell (p:=⟨b,4,none⟩) hlt).trans h5⟩
theorem qfT {h:Nat} (H2:R2C h):qsb h:=by
 intro of v cs w hh hT hv hz;have HRO:=zh (fun (u:World)=>eu of u);obtain ⟨A,c,A2,d,rfl, -⟩:=id hv.cells;have HR2:=zh (fun (b1 b3 b4:Nat) (u:World) (hu:Below w.heap.size w u) (hr:Rdy u of b1 b3 b4)=>H2 of v _ b1 b3 b4 u hh (hT.below hu) hr (hv.below hu (Nat.le_refl _) hu.size) hz);have en:=qtZ;obtain ⟨X,hX⟩:∃ X,aa of=X:=⟨_,rfl⟩
 rw [hX] at HRO ⊢;clear hX;generalize aI of v=r at *;generalize v.k=k at *;generalize v.n=n at *;generalize aa v.s=S at *;generalize v.l.length=l at *;generalize v.ms.length=m at *;clear hv hz hh hT H2;obtain ⟨W0,HB0,HR0,hlb,HW0⟩:=zo w #[.int .i64 k,.int .i64 n,.string S,.slice A l c,.slice A2 m d] 25;go_enter Tryz.func85,Tryz.ntmps85;go_upto_region 1 with fail;rw [←HW0.out];have hbd:Below W0.heap.size W0 W0.drew:=(Below.refl _ _).drew;obtain ⟨⟨p0,p1,p2,p3,p4⟩, -⟩:=ae HR0.out;go_region_held3 (fun w'=>Below W0.heap.size W0 w'∧w'.cell? ⟨w.heap.size,0,none⟩=some (.int .i64 k)∧w'.cell? ⟨w.heap.size,1,none⟩=some (.int .i64 n)∧w'.cell? ⟨w.heap.size,2,none⟩=some (.string S)∧w'.cell? ⟨w.heap.size,3,none⟩=some (.slice A l c)∧w'.cell? ⟨w.heap.size,4,none⟩=some (.slice A2 m d)) (first | exact qeY (by assumption) hbn hlb | go_keep) (first | (go_at_call 87;refine (HRO.out _).mono ?_;rintro e u1 ⟨b1,b3,b4,rfl,hr,hbn⟩) | (go_at_fn 150;refine (HR2.out b1 b3 b4 _ (HB0.out.trans (Below.mono (by go_split_ands;assumption) HB0.out.size)) hr).mono ?_;rintro e u2 ⟨rfl,hbn⟩))
 have hfin:Below W0.heap.size W0 u2:=by go_split_ands;assumption
 have HFIN:=zh (HB0.out.trans (hfin.mono HB0.out.size));clear p0 p1 p2 p3 p4;go_wp2_with fail;go_ret;exact ⟨rfl,HFIN.out⟩
theorem qdG {h:Nat} (H2:R2C h) {w:World} {of:List UInt8} {b1 b3 b4:Nat} (hT:St.Tab w) (hr:Rdy w of b1 b3 b4):FnV h w 150 #[.pointer (some ⟨b3,0,none⟩),.pointer (some ⟨b4,0,none⟩)] (aI of):=
 ⟨qtZ,fun x cs W hx hW hv hz=>H2 of x cs b1 b3 b4 W hx (hT.below hW) (hr.below hW) hv hz⟩
theorem qn7 {of:List UInt8} {p:Pr} (hp:p∈af of):1≤p.fm∧p.fm≤18∧p.ar.length≤700:=by
 rcases Sm.qdf of with h | ⟨h0,h1,h2,h3,h4,h5,h6,h7,h8,h9,h10,h11,h12,h13,h14,h15,h16,h17,h18,h19⟩
 ·obtain ⟨q,hq,rfl⟩:=List.getElem_of_mem h;obtain ⟨i,hi,rfl⟩:=List.getElem_of_mem hp;have a:=Sm.qgE hi (Sm.qpG hq i hi);exact ⟨a.2.1,a.2.2.1,Sm.qqR hq i hi⟩
 ·have e2:af of=[]:=by
   unfold af;rw [if_pos (Sm.qoK h0 h1 h2 h3 h4 h5 h6 h7 h8 h9 h10 h11 h12 h13 h14 h15 h16 h17 h18 h19)]
  rw [e2] at hp;cases hp
end Cd
namespace Cd
open Go.Proofs Go.RowKit Go.Lib Utf Sc Re Tr
open Sm (Pr RdP af cX prV)
open Wo (Tl qdS dG eV inS)
theorem qiO {h:Nat} (H2:R2C h) (v:V) (cs:List Value) (w:World) (hh:ht v<h) (hT:St.Tab w) (hv:RdA w 0 w.heap.size v cs) (hz:szA 4611686018427387904 v) :
  Calls Tryz.prog 90 #[.agg cs.toArray] w (Tl (aI (bK v) v&&prt v qip 0 9999&&prt v qek 1 12&&prt v qoZ 1 31) w):=by
 obtain ⟨A,c,A2,d,rfl, -⟩:=id hv.cells;have HDT:=zh (fun (u:World) (hu:Below w.heap.size w u)=>qcu v _ u (hv.below hu (Nat.le_refl _) hu.size) hz);have HRT:=zh (fun (u:World) (hu:Below w.heap.size w u)=>qfT H2 (bK v) v _ u hh (hT.below hu) (hv.below hu (Nat.le_refl _) hu.size) hz);have HWI:=zh (fun (u:World) (X:ByteArray) (a b:Int) (hu:Below w.heap.size w u)=>(show Calls Tryz.prog 153 #[.agg [Value.int .i64 v.k,.int .i64 v.n,.string (aa v.s),.slice A v.l.length c,.slice A2 v.ms.length d].toArray,.string X,.int .i64 a,.int .i64 b] u (Tl (prt v X.data.toList a b) u) from qgh v _ X.data.toList a b u (hv.below hu (Nat.le_refl _) hu.size) hz));obtain ⟨D,hD⟩:∃ D,aa (bK v)=D:=⟨_,rfl⟩
 rw [hD] at HDT HRT;obtain ⟨r0,e0⟩:∃ r,aI (bK v) v=r:=⟨_,rfl⟩
 obtain ⟨r1,e1⟩:∃ r,prt v ({ data:= #[121,101,97,114] }:ByteArray).data.toList 0 9999=r:=⟨_,rfl⟩
 obtain ⟨r2,e2⟩:∃ r,prt v ({ data:= #[109,111,110,116,104] }:ByteArray).data.toList 1 12=r:=⟨_,rfl⟩
 obtain ⟨r3,e3⟩:∃ r,prt v ({ data:= #[100,97,121] }:ByteArray).data.toList 1 31=r:=⟨_,rfl⟩
 have HQ:=zh (show (aI (bK v) v&&prt v qip 0 9999&&prt v qek 1 12&&prt v qoZ 1 31)=(r0&&r1&&r2&&r3) by rw [←e0,←e1,←e2,←e3];rfl);rw [HQ.out];rw [e0] at HRT;have E1:=zh e1;have E2:=zh e2;have E3:=zh e3;clear hv hz hT hh hD e0 e1 e2 e3 HQ;generalize v.k=k at *;generalize v.n=n at *;generalize aa v.s=S at *;generalize v.l.length=l at *;generalize v.ms.length=m at *;obtain ⟨W0,HB0,HR0,hlb,HW0⟩:=zo w #[.int .i64 k,.int .i64 n,.string S,.slice A l c,.slice A2 m d] 25;go_enter Tryz.func90,Tryz.ntmps90;go_upto_region 1 with fail;rw [←HW0.out];obtain ⟨⟨p0,p1,p2,p3,p4⟩, -⟩:=ae HR0.out;refine wp_region_held_drew (S:=fun w'=>Below W0.heap.size W0 w'∧w'.cell? ⟨w.heap.size,0,none⟩=some (.int .i64 k)∧w'.cell? ⟨w.heap.size,1,none⟩=some (.int .i64 n)∧w'.cell? ⟨w.heap.size,2,none⟩=some (.string S)∧w'.cell? ⟨w.heap.size,3,none⟩=some (.slice A l c)∧w'.cell? ⟨w.heap.size,4,none⟩=some (.slice A2 m d)) (by kernel_rfl) (qeY ⟨Below.refl _ _,p0,p1,p2,p3,p4⟩ (Below.refl _ _).drew hlb) (fun hHeld=>?_);refine zm 0 ⟨some 3,.load 25 (.tmp 1),25,"form.go:126",#[],none⟩ _ rfl (by kernel_rfl) (fun _ _ _ h=>h) (by rfl) hHeld (fun w hSw=>by go_simp;with_reducible rfl) ?_
 refine zm 2 ⟨some 5,.load 25 (.tmp 1),25,"form.go:126",#[],none⟩ _ rfl (by kernel_rfl) (fun _ _ _ h=>h) (by rfl) hHeld (fun w hSw=>by go_simp;with_reducible rfl) ?_
 refine wpAnyH_ready (rs:=[1]) (by kernel_rfl) (by simp) ?_;refine AllReadyH.cons (o:=⟨some 4,.call ⟨.value (.func 116),#[.tmp 3],#[25]⟩,9,"form.go:126",#[⟨0,.data⟩],none⟩) rfl (fun K hK=>?_) AllReadyH.nil
 go_simp;refine (HDT.out _ (HB0.out.trans (Below.mono hHeld.1 HB0.out.size))).mono ?_;rintro e u ⟨rfl,hbn⟩;refine hK.out _ _ (qeY hHeld hbn hlb) (fun hHeld=>?_);clear hK K
 try simp only [Act.put,List.set_cons_succ,List.set_cons_zero,List.setIfInBounds_toArray]
 refine wpAnyH_ready (rs:=[3]) (by kernel_rfl) (by simp) ?_;refine AllReadyH.cons (o:=⟨some 6,.call ⟨.value (.func 85),#[.tmp 4,.tmp 5],#[9,25]⟩,4,"form.go:126",#[⟨1,.data⟩,⟨2,.data⟩,⟨1,.chain⟩],none⟩) rfl (fun K hK=>?_) AllReadyH.nil
 go_simp;refine (HRT.out _ (HB0.out.trans (Below.mono hHeld.1 HB0.out.size))).mono ?_;rintro e u ⟨rfl,hbn⟩;refine hK.out _ _ (qeY hHeld hbn hlb) (fun hHeld=>?_);clear hK K;cases r0
 ·refine wpAnyH_take (i:=4) (oi:={ dst:=some 7,op:=Op.move (Operand.tmp 6),type:=4,pos:= "form.go:126",after:= #[{ on:=3,ground:=Ground.data },{ on:=3,ground:=Ground.chain }],guard:=none }) (v:=?_) rfl (by kernel_rfl) (by kernel_rfl) (by kernel_rfl) (fun _ _ _ h=>h) (Or.inl ⟨by rfl,?_⟩) hHeld ?_
  rotate_left
  ·intro w hSw;(try dsimp only at hSw);go_simp;with_reducible rfl
  refine wpAnyH_take (i:=5) (oi:={ dst:=some 8,op:=Op.load 25 (Operand.tmp 1),type:=25,pos:= "form.go:126",after:= #[{ on:=4,ground:=Ground.guard }],guard:=some (4,true) }) (v:=undef) rfl (by kernel_rfl) (by kernel_rfl) (by kernel_rfl) (fun _ _ _ h=>h) (Or.inr ⟨by rfl,rfl⟩) hHeld ?_
  try simp only [Act.put,List.set_cons_succ,List.set_cons_zero,List.setIfInBounds_toArray]
  refine wpAnyH_take (i:=6) (oi:={ dst:=some 9,op:=Op.call { callee:=Callee.value (Operand.func 153),args:= #[Operand.tmp 8,Operand.const (Value.string { data:= #[121,101,97,114] }),Operand.const (Value.int IntKind.i64 0),Operand.const (Value.int IntKind.i64 9999)],argTypes:= #[25,9,2,2] },type:=4,pos:= "form.go:126",after:= #[{ on:=5,ground:=Ground.data },{ on:=4,ground:=Ground.chain },{ on:=4,ground:=Ground.guard }],guard:=some (4,true) }) (v:=undef) rfl (by kernel_rfl) (by kernel_rfl) (by kernel_rfl) (fun _ _ _ h=>h) (Or.inr ⟨by rfl,rfl⟩) hHeld ?_
  refine zm 7 ⟨some 10,.pick (.tmp 7) (.tmp 9) (.const (.bool false)),4,"form.go:126",#[⟨4,.data⟩,⟨6,.data⟩],none⟩ _ rfl (by kernel_rfl) (fun _ _ _ h=>h) (by rfl) hHeld (fun w hSw=>by go_simp;with_reducible rfl) ?_
  refine zm 8 ⟨some 11,.move (.tmp 10),4,"form.go:126",#[⟨7,.data⟩,⟨6,.chain⟩],none⟩ _ rfl (by kernel_rfl) (fun _ _ _ h=>h) (by rfl) hHeld (fun w hSw=>by go_simp;with_reducible rfl) ?_
  try simp only [Act.put,List.set_cons_succ,List.set_cons_zero,List.setIfInBounds_toArray]
  refine wpAnyH_take (i:=9) (oi:={ dst:=some 12,op:=Op.load 25 (Operand.tmp 1),type:=25,pos:= "form.go:126",after:= #[{ on:=8,ground:=Ground.guard }],guard:=some (8,true) }) (v:=undef) rfl (by kernel_rfl) (by kernel_rfl) (by kernel_rfl) (fun _ _ _ h=>h) (Or.inr ⟨by rfl,rfl⟩) hHeld ?_
  refine wpAnyH_take (i:=10) (oi:={ dst:=some 13,op:=Op.call { callee:=Callee.value (Operand.func 153),args:= #[Operand.tmp 12,Operand.const (Value.string { data:= #[109,111,110,116,104] }),Operand.const (Value.int IntKind.i64 1),Operand.const (Value.int IntKind.i64 12)],argTypes:= #[25,9,2,2] },type:=4,pos:= "form.go:126",after:= #[{ on:=9,ground:=Ground.data },{ on:=8,ground:=Ground.chain },{ on:=8,ground:=Ground.guard }],guard:=some (8,true) }) (v:=undef) rfl (by kernel_rfl) (by kernel_rfl) (by kernel_rfl) (fun _ _ _ h=>h) (Or.inr ⟨by rfl,rfl⟩) hHeld ?_
  refine zm 11 ⟨some 14,.pick (.tmp 11) (.tmp 13) (.const (.bool false)),4,"form.go:126",#[⟨8,.data⟩,⟨10,.data⟩],none⟩ _ rfl (by kernel_rfl) (fun _ _ _ h=>h) (by rfl) hHeld (fun w hSw=>by go_simp;with_reducible rfl) ?_
  try simp only [Act.put,List.set_cons_succ,List.set_cons_zero,List.setIfInBounds_toArray]
  refine zm 12 ⟨some 15,.move (.tmp 14),4,"form.go:126",#[⟨11,.data⟩,⟨10,.chain⟩],none⟩ _ rfl (by kernel_rfl) (fun _ _ _ h=>h) (by rfl) hHeld (fun w hSw=>by go_simp;with_reducible rfl) ?_
  refine wpAnyH_take (i:=13) (oi:={ dst:=some 16,op:=Op.load 25 (Operand.tmp 1),type:=25,pos:= "form.go:126",after:= #[{ on:=12,ground:=Ground.guard }],guard:=some (12,true) }) (v:=undef) rfl (by kernel_rfl) (by kernel_rfl) (by kernel_rfl) (fun _ _ _ h=>h) (Or.inr ⟨by rfl,rfl⟩) hHeld ?_
  refine wpAnyH_take (i:=14) (oi:={ dst:=some 17,op:=Op.call { callee:=Callee.value (Operand.func 153),args:= #[Operand.tmp 16,Operand.const (Value.string { data:= #[100,97,121] }),Operand.const (Value.int IntKind.i64 1),Operand.const (Value.int IntKind.i64 31)],argTypes:= #[25,9,2,2] },type:=4,pos:= "form.go:126",after:= #[{ on:=13,ground:=Ground.data },{ on:=12,ground:=Ground.chain },{ on:=12,ground:=Ground.guard }],guard:=some (12,true) }) (v:=undef) rfl (by kernel_rfl) (by kernel_rfl) (by kernel_rfl) (fun _ _ _ h=>h) (Or.inr ⟨by rfl,rfl⟩) hHeld ?_
  try simp only [Act.put,List.set_cons_succ,List.set_cons_zero,List.setIfInBounds_toArray]
  refine zm 15 ⟨some 18,.pick (.tmp 15) (.tmp 17) (.const (.bool false)),4,"form.go:126",#[⟨12,.data⟩,⟨14,.data⟩],none⟩ _ rfl (by kernel_rfl) (fun _ _ _ h=>h) (by rfl) hHeld (fun w hSw=>by go_simp;with_reducible rfl) ?_
  refine zm 16 ⟨some 2,.assign (.tmp 18),4,"form.go:126",#[⟨15,.data⟩,⟨14,.chain⟩,⟨0,.phase⟩,⟨1,.phase⟩,⟨2,.phase⟩,⟨3,.phase⟩,⟨4,.phase⟩,⟨5,.phase⟩,⟨6,.phase⟩,⟨7,.phase⟩,⟨8,.phase⟩,⟨9,.phase⟩,⟨10,.phase⟩,⟨11,.phase⟩,⟨12,.phase⟩,⟨13,.phase⟩,⟨14,.phase⟩,⟨15,.phase⟩],none⟩ _ rfl (by kernel_rfl) (fun _ _ _ h=>h) (by rfl) hHeld (fun w hSw=>by go_simp;with_reducible rfl) ?_
  refine wpAnyH_done (by kernel_rfl) ?_ _;have HFIN:=zh (HB0.out.trans (hHeld.1.mono HB0.out.size));clear p0 p1 p2 p3 p4 hHeld;go_wp2_with fail;go_ret;exact ⟨rfl,HFIN.out⟩
 ·refine wpAnyH_take (i:=4) (oi:={ dst:=some 7,op:=Op.move (Operand.tmp 6),type:=4,pos:= "form.go:126",after:= #[{ on:=3,ground:=Ground.data },{ on:=3,ground:=Ground.chain }],guard:=none }) (v:=?_) rfl (by kernel_rfl) (by kernel_rfl) (by kernel_rfl) (fun _ _ _ h=>h) (Or.inl ⟨by rfl,?_⟩) hHeld ?_
  rotate_left
  ·intro w hSw;(try dsimp only at hSw);go_simp;with_reducible rfl
  try simp only [Act.put,List.set_cons_succ,List.set_cons_zero,List.setIfInBounds_toArray]
  refine zm 5 ⟨some 8,.load 25 (.tmp 1),25,"form.go:126",#[⟨4,.guard⟩],some (4,true)⟩ _ rfl (by kernel_rfl) (fun _ _ _ h=>h) (by rfl) hHeld (fun w hSw=>by go_simp;with_reducible rfl) ?_
  refine wpAnyH_ready (rs:=[6]) (by kernel_rfl) (by simp) ?_;refine AllReadyH.cons (o:=⟨some 9,.call ⟨.value (.func 153),#[.tmp 8,.const (.string { data:= #[121,101,97,114] }),.const (.int .i64 0),.const (.int .i64 9999)],#[25,9,2,2]⟩,4,"form.go:126",#[⟨5,.data⟩,⟨4,.chain⟩,⟨4,.guard⟩],some (4,true)⟩) rfl (fun K hK=>?_) AllReadyH.nil
  go_simp;refine (HWI.out _ _ _ _ (HB0.out.trans (Below.mono hHeld.1 HB0.out.size))).mono ?_;rintro e u ⟨rfl,hbn⟩
  first | rw [E1.out] | rw [E2.out] | rw [E3.out]
  refine hK.out _ _ (qeY hHeld hbn hlb) (fun hHeld=>?_);clear hK K;refine zm 7 ⟨some 10,.pick (.tmp 7) (.tmp 9) (.const (.bool false)),4,"form.go:126",#[⟨4,.data⟩,⟨6,.data⟩],none⟩ _ rfl (by kernel_rfl) (fun _ _ _ h=>h) (by rfl) hHeld (fun w hSw=>by go_simp;with_reducible rfl) ?_
  try simp only [Act.put,List.set_cons_succ,List.set_cons_zero,List.setIfInBounds_toArray]
  cases r1
  ·refine wpAnyH_take (i:=8) (oi:={ dst:=some 11,op:=Op.move (Operand.tmp 10),type:=4,pos:= "form.go:126",after:= #[{ on:=7,ground:=Ground.data },{ on:=6,ground:=Ground.chain }],guard:=none }) (v:=?_) rfl (by kernel_rfl) (by kernel_rfl) (by kernel_rfl) (fun _ _ _ h=>h) (Or.inl ⟨by rfl,?_⟩) hHeld ?_
   rotate_left
   ·intro w hSw;(try dsimp only at hSw);go_simp;with_reducible rfl
   refine wpAnyH_take (i:=9) (oi:={ dst:=some 12,op:=Op.load 25 (Operand.tmp 1),type:=25,pos:= "form.go:126",after:= #[{ on:=8,ground:=Ground.guard }],guard:=some (8,true) }) (v:=undef) rfl (by kernel_rfl) (by kernel_rfl) (by kernel_rfl) (fun _ _ _ h=>h) (Or.inr ⟨by rfl,rfl⟩) hHeld ?_
   refine wpAnyH_take (i:=10) (oi:={ dst:=some 13,op:=Op.call { callee:=Callee.value (Operand.func 153),args:= #[Operand.tmp 12,Operand.const (Value.string { data:= #[109,111,110,116,104] }),Operand.const (Value.int IntKind.i64 1),Operand.const (Value.int IntKind.i64 12)],argTypes:= #[25,9,2,2] },type:=4,pos:= "form.go:126",after:= #[{ on:=9,ground:=Ground.data },{ on:=8,ground:=Ground.chain },{ on:=8,ground:=Ground.guard }],guard:=some (8,true) }) (v:=undef) rfl (by kernel_rfl) (by kernel_rfl) (by kernel_rfl) (fun _ _ _ h=>h) (Or.inr ⟨by rfl,rfl⟩) hHeld ?_
   try simp only [Act.put,List.set_cons_succ,List.set_cons_zero,List.setIfInBounds_toArray]
   refine zm 11 ⟨some 14,.pick (.tmp 11) (.tmp 13) (.const (.bool false)),4,"form.go:126",#[⟨8,.data⟩,⟨10,.data⟩],none⟩ _ rfl (by kernel_rfl) (fun _ _ _ h=>h) (by rfl) hHeld (fun w hSw=>by go_simp;with_reducible rfl) ?_
   refine zm 12 ⟨some 15,.move (.tmp 14),4,"form.go:126",#[⟨11,.data⟩,⟨10,.chain⟩],none⟩ _ rfl (by kernel_rfl) (fun _ _ _ h=>h) (by rfl) hHeld (fun w hSw=>by go_simp;with_reducible rfl) ?_
   refine wpAnyH_take (i:=13) (oi:={ dst:=some 16,op:=Op.load 25 (Operand.tmp 1),type:=25,pos:= "form.go:126",after:= #[{ on:=12,ground:=Ground.guard }],guard:=some (12,true) }) (v:=undef) rfl (by kernel_rfl) (by kernel_rfl) (by kernel_rfl) (fun _ _ _ h=>h) (Or.inr ⟨by rfl,rfl⟩) hHeld ?_
   try simp only [Act.put,List.set_cons_succ,List.set_cons_zero,List.setIfInBounds_toArray]
   refine wpAnyH_take (i:=14) (oi:={ dst:=some 17,op:=Op.call { callee:=Callee.value (Operand.func 153),args:= #[Operand.tmp 16,Operand.const (Value.string { data:= #[100,97,121] }),Operand.const (Value.int IntKind.i64 1),Operand.const (Value.int IntKind.i64 31)],argTypes:= #[25,9,2,2] },type:=4,pos:= "form.go:126",after:= #[{ on:=13,ground:=Ground.data },{ on:=12,ground:=Ground.chain },{ on:=12,ground:=Ground.guard }],guard:=some (12,true) }) (v:=undef) rfl (by kernel_rfl) (by kernel_rfl) (by kernel_rfl) (fun _ _ _ h=>h) (Or.inr ⟨by rfl,rfl⟩) hHeld ?_
   refine zm 15 ⟨some 18,.pick (.tmp 15) (.tmp 17) (.const (.bool false)),4,"form.go:126",#[⟨12,.data⟩,⟨14,.data⟩],none⟩ _ rfl (by kernel_rfl) (fun _ _ _ h=>h) (by rfl) hHeld (fun w hSw=>by go_simp;with_reducible rfl) ?_
   refine zm 16 ⟨some 2,.assign (.tmp 18),4,"form.go:126",#[⟨15,.data⟩,⟨14,.chain⟩,⟨0,.phase⟩,⟨1,.phase⟩,⟨2,.phase⟩,⟨3,.phase⟩,⟨4,.phase⟩,⟨5,.phase⟩,⟨6,.phase⟩,⟨7,.phase⟩,⟨8,.phase⟩,⟨9,.phase⟩,⟨10,.phase⟩,⟨11,.phase⟩,⟨12,.phase⟩,⟨13,.phase⟩,⟨14,.phase⟩,⟨15,.phase⟩],none⟩ _ rfl (by kernel_rfl) (fun _ _ _ h=>h) (by rfl) hHeld (fun w hSw=>by go_simp;with_reducible rfl) ?_
   try simp only [Act.put,List.set_cons_succ,List.set_cons_zero,List.setIfInBounds_toArray]
   refine wpAnyH_done (by kernel_rfl) ?_ _;have HFIN:=zh (HB0.out.trans (hHeld.1.mono HB0.out.size));clear p0 p1 p2 p3 p4 hHeld;go_wp2_with fail;go_ret;exact ⟨rfl,HFIN.out⟩
  ·refine wpAnyH_take (i:=8) (oi:={ dst:=some 11,op:=Op.move (Operand.tmp 10),type:=4,pos:= "form.go:126",after:= #[{ on:=7,ground:=Ground.data },{ on:=6,ground:=Ground.chain }],guard:=none }) (v:=?_) rfl (by kernel_rfl) (by kernel_rfl) (by kernel_rfl) (fun _ _ _ h=>h) (Or.inl ⟨by rfl,?_⟩) hHeld ?_
   rotate_left
   ·intro w hSw;(try dsimp only at hSw);go_simp;with_reducible rfl
   refine zm 9 ⟨some 12,.load 25 (.tmp 1),25,"form.go:126",#[⟨8,.guard⟩],some (8,true)⟩ _ rfl (by kernel_rfl) (fun _ _ _ h=>h) (by rfl) hHeld (fun w hSw=>by go_simp;with_reducible rfl) ?_
   refine wpAnyH_ready (rs:=[10]) (by kernel_rfl) (by simp) ?_;refine AllReadyH.cons (o:=⟨some 13,.call ⟨.value (.func 153),#[.tmp 12,.const (.string { data:= #[109,111,110,116,104] }),.const (.int .i64 1),.const (.int .i64 12)],#[25,9,2,2]⟩,4,"form.go:126",#[⟨9,.data⟩,⟨8,.chain⟩,⟨8,.guard⟩],some (8,true)⟩) rfl (fun K hK=>?_) AllReadyH.nil
   go_simp;refine (HWI.out _ _ _ _ (HB0.out.trans (Below.mono hHeld.1 HB0.out.size))).mono ?_;rintro e u ⟨rfl,hbn⟩
   first | rw [E1.out] | rw [E2.out] | rw [E3.out]
   refine hK.out _ _ (qeY hHeld hbn hlb) (fun hHeld=>?_);clear hK K
   try simp only [Act.put,List.set_cons_succ,List.set_cons_zero,List.setIfInBounds_toArray]
   refine zm 11 ⟨some 14,.pick (.tmp 11) (.tmp 13) (.const (.bool false)),4,"form.go:126",#[⟨8,.data⟩,⟨10,.data⟩],none⟩ _ rfl (by kernel_rfl) (fun _ _ _ h=>h) (by rfl) hHeld (fun w hSw=>by go_simp;with_reducible rfl) ?_
   cases r2
   ·refine wpAnyH_take (i:=12) (oi:={ dst:=some 15,op:=Op.move (Operand.tmp 14),type:=4,pos:= "form.go:126",after:= #[{ on:=11,ground:=Ground.data },{ on:=10,ground:=Ground.chain }],guard:=none }) (v:=?_) rfl (by kernel_rfl) (by kernel_rfl) (by kernel_rfl) (fun _ _ _ h=>h) (Or.inl ⟨by rfl,?_⟩) hHeld ?_
    rotate_left
    ·intro w hSw;(try dsimp only at hSw);go_simp;with_reducible rfl
    refine wpAnyH_take (i:=13) (oi:={ dst:=some 16,op:=Op.load 25 (Operand.tmp 1),type:=25,pos:= "form.go:126",after:= #[{ on:=12,ground:=Ground.guard }],guard:=some (12,true) }) (v:=undef) rfl (by kernel_rfl) (by kernel_rfl) (by kernel_rfl) (fun _ _ _ h=>h) (Or.inr ⟨by rfl,rfl⟩) hHeld ?_
    try simp only [Act.put,List.set_cons_succ,List.set_cons_zero,List.setIfInBounds_toArray]
    refine wpAnyH_take (i:=14) (oi:={ dst:=some 17,op:=Op.call { callee:=Callee.value (Operand.func 153),args:= #[Operand.tmp 16,Operand.const (Value.string { data:= #[100,97,121] }),Operand.const (Value.int IntKind.i64 1),Operand.const (Value.int IntKind.i64 31)],argTypes:= #[25,9,2,2] },type:=4,pos:= "form.go:126",after:= #[{ on:=13,ground:=Ground.data },{ on:=12,ground:=Ground.chain },{ on:=12,ground:=Ground.guard }],guard:=some (12,true) }) (v:=undef) rfl (by kernel_rfl) (by kernel_rfl) (by kernel_rfl) (fun _ _ _ h=>h) (Or.inr ⟨by rfl,rfl⟩) hHeld ?_
    refine zm 15 ⟨some 18,.pick (.tmp 15) (.tmp 17) (.const (.bool false)),4,"form.go:126",#[⟨12,.data⟩,⟨14,.data⟩],none⟩ _ rfl (by kernel_rfl) (fun _ _ _ h=>h) (by rfl) hHeld (fun w hSw=>by go_simp;with_reducible rfl) ?_
    refine zm 16 ⟨some 2,.assign (.tmp 18),4,"form.go:126",#[⟨15,.data⟩,⟨14,.chain⟩,⟨0,.phase⟩,⟨1,.phase⟩,⟨2,.phase⟩,⟨3,.phase⟩,⟨4,.phase⟩,⟨5,.phase⟩,⟨6,.phase⟩,⟨7,.phase⟩,⟨8,.phase⟩,⟨9,.phase⟩,⟨10,.phase⟩,⟨11,.phase⟩,⟨12,.phase⟩,⟨13,.phase⟩,⟨14,.phase⟩,⟨15,.phase⟩],none⟩ _ rfl (by kernel_rfl) (fun _ _ _ h=>h) (by rfl) hHeld (fun w hSw=>by go_simp;with_reducible rfl) ?_
    try simp only [Act.put,List.set_cons_succ,List.set_cons_zero,List.setIfInBounds_toArray]
    refine wpAnyH_done (by kernel_rfl) ?_ _;have HFIN:=zh (HB0.out.trans (hHeld.1.mono HB0.out.size));clear p0 p1 p2 p3 p4 hHeld;go_wp2_with fail;go_ret;exact ⟨rfl,HFIN.out⟩
   ·refine wpAnyH_take (i:=12) (oi:={ dst:=some 15,op:=Op.move (Operand.tmp 14),type:=4,pos:= "form.go:126",after:= #[{ on:=11,ground:=Ground.data },{ on:=10,ground:=Ground.chain }],guard:=none }) (v:=?_) rfl (by kernel_rfl) (by kernel_rfl) (by kernel_rfl) (fun _ _ _ h=>h) (Or.inl ⟨by rfl,?_⟩) hHeld ?_
    rotate_left
    ·intro w hSw;(try dsimp only at hSw);go_simp;with_reducible rfl
    refine zm 13 ⟨some 16,.load 25 (.tmp 1),25,"form.go:126",#[⟨12,.guard⟩],some (12,true)⟩ _ rfl (by kernel_rfl) (fun _ _ _ h=>h) (by rfl) hHeld (fun w hSw=>by go_simp;with_reducible rfl) ?_
    refine wpAnyH_ready (rs:=[14]) (by kernel_rfl) (by simp) ?_;refine AllReadyH.cons (o:=⟨some 17,.call ⟨.value (.func 153),#[.tmp 16,.const (.string { data:= #[100,97,121] }),.const (.int .i64 1),.const (.int .i64 31)],#[25,9,2,2]⟩,4,"form.go:126",#[⟨13,.data⟩,⟨12,.chain⟩,⟨12,.guard⟩],some (12,true)⟩) rfl (fun K hK=>?_) AllReadyH.nil
    go_simp;refine (HWI.out _ _ _ _ (HB0.out.trans (Below.mono hHeld.1 HB0.out.size))).mono ?_;rintro e u ⟨rfl,hbn⟩
    first | rw [E1.out] | rw [E2.out] | rw [E3.out]
    refine hK.out _ _ (qeY hHeld hbn hlb) (fun hHeld=>?_);clear hK K
    try simp only [Act.put,List.set_cons_succ,List.set_cons_zero,List.setIfInBounds_toArray]
    refine zm 15 ⟨some 18,.pick (.tmp 15) (.tmp 17) (.const (.bool false)),4,"form.go:126",#[⟨12,.data⟩,⟨14,.data⟩],none⟩ _ rfl (by kernel_rfl) (fun _ _ _ h=>h) (by rfl) hHeld (fun w hSw=>by go_simp;with_reducible rfl) ?_
    cases r3
    ·refine wpAnyH_take (i:=16) (oi:={ dst:=some 2,op:=Op.assign (Operand.tmp 18),type:=4,pos:= "form.go:126",after:= #[{ on:=15,ground:=Ground.data },{ on:=14,ground:=Ground.chain },{ on:=0,ground:=Ground.phase },{ on:=1,ground:=Ground.phase },{ on:=2,ground:=Ground.phase },{ on:=3,ground:=Ground.phase },{ on:=4,ground:=Ground.phase },{ on:=5,ground:=Ground.phase },{ on:=6,ground:=Ground.phase },{ on:=7,ground:=Ground.phase },{ on:=8,ground:=Ground.phase },{ on:=9,ground:=Ground.phase },{ on:=10,ground:=Ground.phase },{ on:=11,ground:=Ground.phase },{ on:=12,ground:=Ground.phase },{ on:=13,ground:=Ground.phase },{ on:=14,ground:=Ground.phase },{ on:=15,ground:=Ground.phase }],guard:=none }) (v:=?_) rfl (by kernel_rfl) (by kernel_rfl) (by kernel_rfl) (fun _ _ _ h=>h) (Or.inl ⟨by rfl,?_⟩) hHeld ?_
     rotate_left
     ·intro w hSw;(try dsimp only at hSw);go_simp;with_reducible rfl
     refine wpAnyH_done (by kernel_rfl) ?_ _;have HFIN:=zh (HB0.out.trans (hHeld.1.mono HB0.out.size));clear p0 p1 p2 p3 p4 hHeld;go_wp2_with fail;go_ret;exact ⟨rfl,HFIN.out⟩
    ·refine wpAnyH_take (i:=16) (oi:={ dst:=some 2,op:=Op.assign (Operand.tmp 18),type:=4,pos:= "form.go:126",after:= #[{ on:=15,ground:=Ground.data },{ on:=14,ground:=Ground.chain },{ on:=0,ground:=Ground.phase },{ on:=1,ground:=Ground.phase },{ on:=2,ground:=Ground.phase },{ on:=3,ground:=Ground.phase },{ on:=4,ground:=Ground.phase },{ on:=5,ground:=Ground.phase },{ on:=6,ground:=Ground.phase },{ on:=7,ground:=Ground.phase },{ on:=8,ground:=Ground.phase },{ on:=9,ground:=Ground.phase },{ on:=10,ground:=Ground.phase },{ on:=11,ground:=Ground.phase },{ on:=12,ground:=Ground.phase },{ on:=13,ground:=Ground.phase },{ on:=14,ground:=Ground.phase },{ on:=15,ground:=Ground.phase }],guard:=none }) (v:=?_) rfl (by kernel_rfl) (by kernel_rfl) (by kernel_rfl) (fun _ _ _ h=>h) (Or.inl ⟨by rfl,?_⟩) hHeld ?_
     rotate_left
     ·intro w hSw;(try dsimp only at hSw);go_simp;with_reducible rfl
     try simp only [Act.put,List.set_cons_succ,List.set_cons_zero,List.setIfInBounds_toArray]
     refine wpAnyH_done (by kernel_rfl) ?_ _;have HFIN:=zh (HB0.out.trans (hHeld.1.mono HB0.out.size));clear p0 p1 p2 p3 p4 hHeld;go_wp2_with fail;go_ret;exact ⟨rfl,HFIN.out⟩
