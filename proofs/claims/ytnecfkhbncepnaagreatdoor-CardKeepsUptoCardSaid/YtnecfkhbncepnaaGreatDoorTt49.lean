/- Merged: CdC CdD CdE. -/
import Derived.Test.YtnecfkhbncepnaaGreatDoorTt46
import Derived.Test.YtnecfkhbncepnaaGreatDoorTt39
set_option maxRecDepth 100000
set_option maxHeartbeats 4000000
namespace Go.Proofs.YtnecfkhbncepnaaGreatDoor
namespace Cd
open Go.Proofs Go.RowKit Go.Lib Utf Sc Re Tr
open Sm (Pr RdP qdT dF)
open Po (bo bx dt)
open Wo (Tl)
theorem qgU (x:V) (s:List UInt8):(decide (x.k=4)&&((aa x.s).toList==(aa s).toList))=qak x s:=by
 unfold qak;rw [ak,ak,Bool.eq_iff_iff];simp
theorem qgM {v:V} (hl:v.ns.length=v.ms.length) {n:List UInt8} (h:n∈inN v):gt v n=some (b9 v n):=by
 unfold gt b9 inM inN at *;by_cases hk:v.k=6
 ·rw [if_pos hk] at h;rw [if_pos hk,if_pos hk,if_pos hk];unfold fst mem;clear hk;generalize v.ns=ns at *;generalize v.ms=ms at *;induction ns generalizing ms with
  | nil=>simp at h
  | cons a r ih=>
   cases ms with
   | nil=>simp at hl
   | cons b s=>
    rw [List.zip_cons_cons,List.find?_cons];by_cases e:a=n
    ·subst e;simp
    ·simp only [decide_eq_false e];have h2:n∈r:=by
      rcases List.mem_cons.1 h with h | h
      ·exact absurd h.symm e
      ·exact h
     rw [List.idxOf_cons];have:(a==n)=false:=beq_eq_false_iff_ne.2 e;rw [this];exact ih h2 _ (by simpa using hl)
 ·rw [if_neg hk] at h;simp at h
theorem qgK {v:V} {n:List UInt8} (h:n∉inN v):gt v n=none:=by
 unfold gt inN at *;by_cases hk:v.k=6
 ·rw [if_pos hk] at h ⊢;unfold fst mem;rw [List.find?_eq_none.2 fun m hm=>?_]
  ·rfl
  ·intro e;exact h ((of_decide_eq_true e)▸(List.of_mem_zip (a:=m.1) (b:=m.2) hm).1)
 ·rw [if_neg hk]
theorem qix {v:V} (hl:v.ns.length=v.ms.length):qgB v=qak (b9 v cJ) dF:=by
 unfold qgB;by_cases h:cJ∈inN v
 ·rw [qgM hl h]
 ·rw [qgK h];have:(inN v).length=(inM v).length:=by
   unfold inN inM;split
   ·exact hl
   ·rfl
  rw [qcS this h];rfl
theorem qr4 {v:V} (hl:v.ns.length=v.ms.length) (n:List UInt8) (a b:Int):prt v n a b=(!decide (n∈inN v) || (decide (a≤(b9 v n).n)&&decide ((b9 v n).n≤b))):=by
 unfold prt;by_cases h:n∈inN v
 ·rw [qgM hl h,zT h];simp
 ·rw [qgK h,zF h];rfl
theorem qht (v:V) (cs:List Value) (w:World) (hv:RdA w 0 w.heap.size v cs) (hz:szA 4611686018427387904 v) :
  Calls Tryz.prog 19 #[.agg cs.toArray] w (Tl (qak (b9 v cn) cj) w):=by
 have HG:=zh (fun (W:World) (hW:Below w.heap.size w W)=>(show Calls Tryz.prog 40 #[.agg cs.toArray,.string ⟨#[107,105,110,100]⟩] W (qcf v cn W) from qdt v cs cn W (hv.below hW (Nat.le_refl _) hW.size) hz));obtain ⟨A0,c0,A20,c20,rfl, -⟩:=hv.cells;rw [←qgU];have HT:=zh (fun (x:V) (A A2:Option Addr) (c d:Nat) W=>(show Calls Tryz.prog 41 #[.agg #[.int .i64 x.k,.int .i64 x.n,.string (aa x.s),.slice A x.l.length c,.slice A2 x.ms.length d],.string ⟨#[103,114,111,117,112]⟩] W (Tl (decide (x.k=4)&&((aa x.s).toList==(aa cj).toList)) W) from qbD x.k x.n (aa x.s) A A2 x.l.length c x.ms.length d (aa cj) W));obtain ⟨x,hx⟩:∃ x,b9 v cn=x:=⟨_,rfl⟩
 have HEX:=zh hx;rw [hx];clear hx;generalize v.k=k at *;generalize v.n=n at *;generalize aa v.s=S at *;generalize v.l.length=l at *;generalize v.ms.length=m at *;clear hv hz;obtain ⟨W0,HB0,HR0, -,HW0⟩:=zo w #[.int .i64 k,.int .i64 n,.string S,.slice A0 l c0,.slice A20 m c20] 25;go_enter Tryz.func19,Tryz.ntmps19;have q:=HR0.out;rw [HW0.out] at q;obtain ⟨⟨p0,p1,p2,p3,p4⟩, -⟩:=ae q;clear q;go_wp2_with fail;rw [←HW0.out];refine (HG.out _ HB0.out).mono ?_;rintro e w1 ⟨⟨xs,rfl,hx⟩,hb⟩;rw [HEX.out] at hx;have HB1:=zB hb HB0;obtain ⟨xA,xc,xB,xd,rfl, -⟩:=hx.cells;have HX:=zh (HT.out x xA xB xc xd);generalize x.k=xk at *;generalize x.n=xn at *;generalize aa x.s=xS at *;generalize x.l.length=xl at *;generalize x.ms.length=xm at *;clear hb hx p0 p1 p2 p3 p4;obtain ⟨⟨y0,y1,y2,y3,y4⟩, -⟩:=ae (ag w1 (.cells #[.int .i64 xk,.int .i64 xn,.string xS,.slice xA xl xc,.slice xB xm xd] 25));generalize (decide (xk=4)&&(xS.toList==(aa cj).toList))=r at *;go_wp2_with fail;refine (HX.out _).mono ?_;rintro e w2 ⟨rfl,hb2⟩;have HB2:=zh (show Below w.heap.size w w2 from (HB1.out.alloc HB1.out.size _).trans (hb2.mono (by rw [aF];exact Nat.le_succ_of_le HB1.out.size)));clear hb2 y0 y1 y2 y3 y4;go_wp2_with fail;go_ret;exact ⟨rfl,HB2.out⟩
theorem qcu (v:V) (cs:List Value) (w:World) (hv:RdA w 0 w.heap.size v cs) (hz:szA 4611686018427387904 v) :
  Calls Tryz.prog 116 #[.agg cs.toArray] w (qbk (.string (aa (bK v))) w):=by
 have hln:v.ns.length=v.ms.length:=by obtain ⟨_,_,_,_,_,h, -⟩:=hv.cells;exact h
 have HDT:=zh (show aa (bK v)=aa (if qak (b9 v cJ) dF then dF else qdT) by unfold bK;rw [qix hln]);obtain ⟨R,hR⟩:∃ R,aa (bK v)=R:=⟨_,rfl⟩
 rw [hR] at HDT ⊢;clear hR;clear hln;have HG:=zh (fun (W:World) (hW:Below w.heap.size w W)=>(show Calls Tryz.prog 40 #[.agg cs.toArray,.string ⟨#[64,116,121,112,101]⟩] W (qcf v cJ W) from qdt v cs cJ W (hv.below hW (Nat.le_refl _) hW.size) hz));obtain ⟨A0,c0,A20,c20,rfl, -⟩:=hv.cells;have HT:=zh (fun (x:V) (A A2:Option Addr) (c d:Nat) W=>(show Calls Tryz.prog 41 #[.agg #[.int .i64 x.k,.int .i64 x.n,.string (aa x.s),.slice A x.l.length c,.slice A2 x.ms.length d],.string ⟨#[84,105,109,101,115,116,97,109,112]⟩] W (Tl (qak x dF) W) by rw [←qgU];exact qbD x.k x.n (aa x.s) A A2 x.l.length c x.ms.length d (aa dF) W));obtain ⟨x,hx⟩:∃ x,b9 v cJ=x:=⟨_,rfl⟩
 have HEX:=zh hx;rw [hx] at HDT;clear hx;obtain ⟨r,hr⟩:∃ r,qak x dF=r:=⟨_,rfl⟩
 generalize v.k=k at *;generalize v.n=n at *;generalize aa v.s=S at *;generalize v.l.length=l at *;generalize v.ms.length=m at *;clear hv hz;obtain ⟨W0,HB0,HR0, -,HW0⟩:=zo w #[.int .i64 k,.int .i64 n,.string S,.slice A0 l c0,.slice A20 m c20] 25;go_enter Tryz.func116,Tryz.ntmps116;have q:=HR0.out;rw [HW0.out] at q;obtain ⟨⟨p0,p1,p2,p3,p4⟩, -⟩:=ae q;clear q;go_wp2_with fail;rw [←HW0.out];refine (HG.out _ HB0.out).mono ?_;rintro e w1 ⟨⟨xs,rfl,hx⟩,hb⟩;rw [HEX.out] at hx;have HB1:=zB hb HB0;obtain ⟨xA,xc,xB,xd,rfl, -⟩:=hx.cells;have HX:=zh (HT.out x xA xB xc xd);rw [hr] at HX HDT;clear hr;generalize x.k=xk at *;generalize x.n=xn at *;generalize aa x.s=xS at *;generalize x.l.length=xl at *;generalize x.ms.length=xm at *;clear hb hx p0 p1 p2 p3 p4;obtain ⟨⟨y0,y1,y2,y3,y4⟩, -⟩:=ae (ag w1 (.cells #[.int .i64 xk,.int .i64 xn,.string xS,.slice xA xl xc,.slice xB xm xd] 25));cases r with
 | true=>
  go_wp2_with fail;refine (HX.out _).mono ?_;rintro e w2 ⟨rfl,hb2⟩;have HB2:=zh (show Below w.heap.size w w2 from (HB1.out.alloc HB1.out.size _).trans (hb2.mono (by rw [aF];exact Nat.le_succ_of_le HB1.out.size)));clear hb2 y0 y1 y2 y3 y4;go_wp2_with fail;go_ret;exact ⟨by rw [HDT.out];rfl,HB2.out⟩
 | false=>
  go_wp2_with fail;refine (HX.out _).mono ?_;rintro e w2 ⟨rfl,hb2⟩;have HB2:=zh (show Below w.heap.size w w2 from (HB1.out.alloc HB1.out.size _).trans (hb2.mono (by rw [aF];exact Nat.le_succ_of_le HB1.out.size)));clear hb2 y0 y1 y2 y3 y4;go_wp2_with fail;go_ret;exact ⟨by rw [HDT.out];rfl,HB2.out⟩
theorem qgh (v:V) (cs:List Value) (nm:List UInt8) (a b:Int) (w:World) (hv:RdA w 0 w.heap.size v cs) (hz:szA 4611686018427387904 v) :
  Calls Tryz.prog 153 #[.agg cs.toArray,.string (aa nm),.int .i64 a,.int .i64 b] w (Tl (prt v nm a b) w):=by
 have hln:v.ns.length=v.ms.length:=by obtain ⟨_,_,_,_,_,h, -⟩:=hv.cells;exact h
 have HDT:=zh (qr4 hln nm a b);rw [HDT.out];clear hln;have HG:=zh (fun (W:World) (hW:Below w.heap.size w W)=>(show Calls Tryz.prog 40 #[.agg cs.toArray,.string (aa nm)] W (qcf v nm W) from qdt v cs nm W (hv.below hW (Nat.le_refl _) hW.size) hz));obtain ⟨A0,c0,A20,c20,rfl, -⟩:=hv.cells;obtain ⟨p,hp⟩:∃ p,decide (nm∈inN v)=p:=⟨_,rfl⟩
 have HP:=zh hp;rw [hp];clear hp;obtain ⟨x,hx⟩:∃ x,b9 v nm=x:=⟨_,rfl⟩
 have HEX:=zh hx;rw [hx];clear hx;obtain ⟨X,hX⟩:∃ X,aa nm=X:=⟨_,rfl⟩
 rw [hX] at HG ⊢;clear hX;generalize v.k=k at *;generalize v.n=n at *;generalize aa v.s=S at *;generalize v.l.length=l at *;generalize v.ms.length=m at *;clear hv hz;obtain ⟨W0,HB0,HR0, -,HW0⟩:=zo w #[.int .i64 k,.int .i64 n,.string S,.slice A0 l c0,.slice A20 m c20] 25;go_enter Tryz.func153,Tryz.ntmps153;have q:=HR0.out;rw [HW0.out] at q;obtain ⟨⟨p0,p1,p2,p3,p4⟩, -⟩:=ae q;clear q;go_wp2_with fail;rw [←HW0.out];refine (HG.out _ HB0.out).mono ?_;rintro e w1 ⟨⟨xs,rfl,hx⟩,hb⟩;rw [HEX.out] at hx;rw [HP.out];have HB1:=zB hb HB0;obtain ⟨xA,xc,xB,xd,rfl, -⟩:=hx.cells;generalize x.k=xk at *;generalize x.n=xn at *;generalize aa x.s=xS at *;generalize x.l.length=xl at *;generalize x.ms.length=xm at *;clear hb hx p0 p1 p2 p3 p4;obtain ⟨⟨y0,y1,y2,y3,y4⟩, -⟩:=ae (ag w1 (.cells #[.int .i64 xk,.int .i64 xn,.string xS,.slice xA xl xc,.slice xB xm xd] 25));have HB2:=zh (show Below w.heap.size w (w1.alloc (.cells #[.int .i64 xk,.int .i64 xn,.string xS,.slice xA xl xc,.slice xB xm xd] 25)) from HB1.out.alloc HB1.out.size _);cases p with
 | false=>
  go_wp2_with fail;go_ret;exact ⟨rfl,HB2.out⟩
 | true=>
  cases t1:decide (a≤xn) with
  | false=>
   have HT1:=zh t1;go_wp2_with fail;go_ret;exact ⟨by rw [HT1.out];rfl,HB2.out⟩
  | true=>
   have HT1:=zh t1;cases t2:decide (xn≤b) with
   | false=>
    have HT2:=zh t2;go_wp2_with fail;go_ret;exact ⟨by rw [HT1.out,HT2.out];rfl,HB2.out⟩
   | true=>
    have HT2:=zh t2;go_wp2_with fail;go_ret;exact ⟨by rw [HT1.out,HT2.out];rfl,HB2.out⟩
def bB (L:List Pr) (ns:List (List UInt8)):List (List UInt8):=(L.filter fun p=>p.mu&& !decide (p.nm∈ns)).map Pr.nm
theorem qju (L:List Pr) (p:Pr) (ns:List (List UInt8)):bB (L++[p]) ns=bB L ns++(if (p.mu&& !decide (p.nm∈ns))=true then [p.nm] else []):=by
 unfold bB;rw [List.filter_append,List.map_append]
 congr 1
 by_cases h:(p.mu&& !decide (p.nm∈ns))=true
 ·rw [List.filter_cons,if_pos h,if_pos h];rfl
 ·rw [List.filter_cons,if_neg h,if_neg h];rfl
theorem qfQ (L:List Pr) (ns:List (List UInt8)):(bB L ns).length≤L.length:=by
 unfold bB;rw [List.length_map];exact List.length_filter_le _ _
def qqc (ps:List (List UInt8)) (w:World) (e:Ending) (w':World):Prop:=
 ∃ x,e = .returned x∧w'.ownsRow w.heap.size 9 1 x ps.length (bo ps)∧Below w.heap.size w w'
theorem qeG (a b:List (List UInt8)):bo (a++b)=bo a++bo b:=List.map_append
theorem qcp {w:World} {b b' E z n:Nat} {v:Value} {xs:List Value} (h:w.ownsRow b E z v n xs) (hb:b'≤b):w.ownsRow b' E z v n xs:=by
 obtain ⟨h0,h⟩:=h;refine ⟨h0,?_⟩;rcases h with h | ⟨g,cap,cur,e,h1,h2⟩
 ·exact .inl h
 ·exact .inr ⟨g,cap,cur,e,Nat.le_trans hb h1,h2⟩
theorem qdk (L:List Pr) (P:Value) (v:V) (cs:List Value) (w:World) (hp:RdP w w.heap.size P L) (hfew:L.length≤100) (hv:RdA w 0 w.heap.size v cs) (hz:szA 4611686018427387904 v) :
  Calls Tryz.prog 18 #[P,.agg cs.toArray] w (qqc (bB L (inN v)) w):=by
 obtain ⟨i1,hj,hy0,hy1,hy2⟩:=info_parts Wo.qn1;have HG:=zh (fun (W:World) (nm:List UInt8) (hW:Below w.heap.size w W)=>qdt v cs nm W (hv.below hW (Nat.le_refl _) hW.size) hz);obtain ⟨A0,c0,A20,c20,rfl, -⟩:=hv.cells;obtain ⟨A,cp,rfl, -⟩:=id hp;have HRD:=zh hp;generalize v.k=k at *;generalize v.n=n at *;generalize aa v.s=S at *;generalize v.l.length=l at *;generalize v.ms.length=m at *;obtain ⟨q,hq⟩:∃ q,L.length=q:=⟨_,rfl⟩
 have HQ:=zh hq;have hq2:q≤100:=by omega
 rw [hq];clear hv hz hp hq hfew;obtain ⟨W0,hW0⟩:∃ W0,W0=w.alloc (.cells #[.int .i64 k,.int .i64 n,.string S,.slice A0 l c0,.slice A20 m c20] 25):=⟨_,rfl⟩
 have HB0:=zh (show Below w.heap.size w W0 by rw [hW0];exact aO _ _);have HR0:=zh (show W0.heap[w.heap.size]? = some (.cells #[.int .i64 k,.int .i64 n,.string S,.slice A0 l c0,.slice A20 m c20] 25 (0,0)) by rw [hW0];exact ag _ _);have HS0:=zh (show W0.heap.size=w.heap.size+1 by rw [hW0,aF]);have HW0:=zh hW0;clear hW0;go_enter Tryz.func18,Tryz.ntmps18;go_wp2_with fail;rw [←HW0.out];go_loopw [5,12] (fun s i wr=>∃ k:Nat,i = .int .i64 (k:Int)∧k≤q∧Aside (wr.ownsRow (w.heap.size+1) 9 1 s (bB (L.take k) (inN v)).length (bo (bB (L.take k) (inN v))))∧Aside (Below (w.heap.size+1) W0 wr)) (fun _ i _=>q-(RowKit.intOf i).toNat)
 case atStart=>exact ⟨0,rfl,by omega,(show World.ownsRow _ _ _ _ _ _ _ from World.ownsRow_nil _ _ _ _),(show Below _ _ _ from by rw [←HS0.out];exact Below.refl _ _)⟩
 case round=>
  obtain ⟨kk,rfl,hk,hrow,hbel⟩:=hrel;have hown:=hrow.out;have HE:=zh hbel.out;have HB:=zh (HB0.out.trans (hbel.out.mono (Nat.le_succ _)));have HBX:=zh ((hbel.out.block w.heap.size (Nat.lt_succ_self _)).trans HR0.out);have HSZ:=zh (show w.heap.size<wr.heap.size by have:=hbel.out.size;rw [HS0.out] at this;exact this);clear hrow hbel;by_cases hlt:kk<q
  ·have t1:decide ((kk:Int)<(q:Int))=true:=zT (by omega);have t2:decide (kk<q)=true:=zT hlt;have k0:(0:Int)≤(kk:Int):=by omega
   have k1:(kk:Int)<(q:Int):=by omega
   have k2:((kk:Int)).toNat=kk:=by omega
   have hkL:kk<L.length:=by rw [HQ.out];exact hlt
   obtain ⟨g,c,hA,hg,hp5⟩:=(HRD.out.below HB.out (Nat.le_refl _)).at_ kk hkL;injection hA with hA1 hA2 hA3
   subst hA1;clear hA2 hA3;obtain ⟨p0,p1,p2,p3,p4⟩:=hp5;have HTK:=zh (show bB (L.take (kk+1)) (inN v)=bB (L.take kk) (inN v)++(if (L[kk].mu&& !decide (L[kk].nm∈inN v))=true then [L[kk].nm] else []) by rw [bZ L kk hkL,qju]);have HGK:=zh (fun W hW=>HG.out W L[kk].nm hW);have HLN:=zh (show (bB (L.take kk) (inN v)).length≤100 from Nat.le_trans (qfQ _ _) (by rw [List.length_take];omega));generalize bB (L.take kk) (inN v)=ps at *;generalize L[kk].nm=nm at *;generalize L[kk].fm=fm at *;generalize aa L[kk].ar=ar at *;generalize L[kk].mu=mu at *;generalize aa L[kk].df=df at *;obtain ⟨pin,hpin⟩:∃ pin,decide (nm∈inN v)=pin:=⟨_,rfl⟩
   have HPI:=zh hpin;rw [hpin] at HTK;clear hpin;obtain ⟨X,hX⟩:∃ X,aa nm=X:=⟨_,rfl⟩
   have HXX:=zh hX;rw [hX] at HGK p0;clear hX;obtain ⟨⟨y0,y1,y2,y3,y4⟩, -⟩:=Sm.aU (ag wr (.cells #[.string X,.int .i64 fm,.string ar,.bool mu,.string df] 76));have HW1:=zh (show Below w.heap.size w (wr.alloc (.cells #[.string X,.int .i64 fm,.string ar,.bool mu,.string df] 76)) from HB.out.alloc HB.out.size _);cases mu with
   | false=>
    have HO2:=zh (show (wr.alloc (.cells #[.string X,.int .i64 fm,.string ar,.bool false,.string df] 76)).ownsRow (w.heap.size+1) 9 1 u5 (bB (L.take (kk+1)) (inN v)).length (bo (bB (L.take (kk+1)) (inN v))) by
     rw [HTK.out];simp only [Bool.false_and,Bool.false_eq_true,if_false,List.append_nil];exact hown.alloc _)
    have HE2:=zh (HE.out.alloc (show w.heap.size+1≤wr.heap.size from HSZ.out) (.cells #[.string X,.int .i64 fm,.string ar,.bool false,.string df] 76));clear hown;go_wp2_with fail;go_roundw
    case rel=>exact ⟨kk+1,by go_num,by omega,HO2.out,HE2.out⟩
    case measure=>simp [RowKit.intOf];omega
   | true=>
    have hbx:=(Below.heap_alloc wr (.cells #[.string X,.int .i64 fm,.string ar,.bool true,.string df] 76) _ HSZ.out).trans HBX.out;have HBX1:=zh hbx;have HE1:=zh (HE.out.alloc (show w.heap.size+1≤wr.heap.size from HSZ.out) (.cells #[.string X,.int .i64 fm,.string ar,.bool true,.string df] 76));obtain ⟨⟨b0,b1,b2,b3,b4⟩, -⟩:=ae hbx;have HO1:=zh (hown.alloc (.cells #[.string X,.int .i64 fm,.string ar,.bool true,.string df] 76));have HPX:=zh (ag wr (.cells #[.string X,.int .i64 fm,.string ar,.bool true,.string df] 76));have HS1:=zh (aF wr (.cells #[.string X,.int .i64 fm,.string ar,.bool true,.string df] 76));clear hbx hown;go_wp2_with fail;refine (HGK.out _ HW1.out).mono ?_;generalize wr.alloc (.cells #[.string X,.int .i64 fm,.string ar,.bool true,.string df] 76)=W1 at *;rintro e w2 ⟨⟨xs,rfl,hx⟩,hb⟩;rw [HPI.out];obtain ⟨xA,xc,xB,xd,rfl, -⟩:=hx.cells;generalize (b9 v nm).k=xk at *;generalize (b9 v nm).n=xn at *;generalize aa (b9 v nm).s=xS at *;generalize (b9 v nm).l.length=xl at *;generalize (b9 v nm).ms.length=xm at *;have HW2:=zB hb HW1;have HO2:=bD HO1.out hb;have HPX2:=(hb.block wr.heap.size (by rw [HS1.out];exact Nat.lt_succ_self _)).trans HPX.out;have HE2:=zh (HE1.out.trans (hb.mono (by rw [HS1.out];exact Nat.le_succ_of_le HSZ.out)));have HSZ2:=zh (show wr.heap.size<w2.heap.size by have:=hb.size;rw [HS1.out] at this;omega);clear hb hx b0 b1 b2 b3 b4 y0 y1 y2 y3 y4 HGK;obtain ⟨W2,hW2⟩:∃ W2,W2=w2.alloc (.cells #[.int .i64 xk,.int .i64 xn,.string xS,.slice xA xl xc,.slice xB xm xd] 25):=⟨_,rfl⟩
    have HE3:=zh (show Below (w.heap.size+1) W0 W2 by rw [hW2];exact HE2.out.alloc (show w.heap.size+1≤w2.heap.size by have:=HSZ.out;have:=HSZ2.out;omega) _);have HO3:W2.ownsRow (w.heap.size+1) 9 1 u5 ps.length (bo ps):=by rw [hW2];exact HO2.alloc _
    have hpx3:W2.heap[wr.heap.size]? = some (.cells #[.string X,.int .i64 fm,.string ar,.bool true,.string df] 76 (0,0)):=by rw [hW2];exact (Below.heap_alloc w2 _ _ HSZ2.out).trans HPX2
    obtain ⟨⟨y0,y1,y2,y3,y4⟩, -⟩:=Sm.aU hpx3;have HW2e:=zh hW2;rw [hW2] at y0 y1 y2 y3 y4;clear hW2 HO2 HPX2 hpx3;cases pin with
    | true=>
     have HO4:=zh (show W2.ownsRow (w.heap.size+1) 9 1 u5 (bB (L.take (kk+1)) (inN v)).length (bo (bB (L.take (kk+1)) (inN v))) by
      rw [HTK.out];simp only [Bool.not_true,Bool.and_false,Bool.false_eq_true,if_false,List.append_nil];exact HO3)
     clear HO3;go_wp2_with fail;rw [←HW2e.out];go_roundw
     case rel=>exact ⟨kk+1,by go_num,by omega,HO4.out,HE3.out⟩
     case measure=>simp [RowKit.intOf];omega
    | false=>
     have HTK2:=zh (show bB (L.take (kk+1)) (inN v)=ps++[nm] by rw [HTK.out];rfl);have HBZ:=zh (show W2.heap.size=w2.heap.size+1 by rw [HW2e.out,aF]);have HBB:=zh (show w.heap.size+1≤W2.heap.size by have:=HSZ.out;have:=HSZ2.out;rw [HBZ.out];omega);have HNW:=zh (show ∀ j u,[Value.string X][j]? = some u→(W2.alloc (.cells #[.string X] 9)).cell? ((⟨w2.heap.size+1,0,none⟩:Addr).add j)=some u by rw [←HBZ.out];exact bM _ _ _);clear HTK;go_wp2_with (at_builtin;rw [←HW2e.out];refine wpList_append_lies _ rfl _ _ 28 rfl (w.heap.size+1) 9 i1 _ 1 16 Tryz.underlying28 hj hy0 hy1 hy2 (by rfl) (by decide) u5 ps.length (bo ps) rfl (HO3.alloc _) ⟨w2.heap.size+1,0,none⟩ 1 1 [.string X] rfl rfl HNW.out ?_ ?_ ?_ ?_ ?_ _ rfl ?_;(intro u hu;simp at hu;subst hu;rfl);omega;(have:=HLN.out;unfold maxLen;omega);(have:=HLN.out;omega);(have:=HBB.out;rw [aF];omega);intro g cap w3 hown2 hg2 hat hgl)
     have HO4:=zh (show w3.ownsRow (w.heap.size+1) 9 1 (.slice (some ⟨g,0,none⟩) (ps.length+1) cap) (bB (L.take (kk+1)) (inN v)).length (bo (bB (L.take (kk+1)) (inN v))) by
      rw [HTK2.out,List.length_append,qeG];have e:bo [nm]=[.string X]:=by rw [←HXX.out];rfl
      rw [e];exact hown2)
     have HE4:=zh (show Below (w.heap.size+1) W0 w3 from (HE3.out.alloc HBB.out _).grown hg2 (by have:=HBB.out;rw [aF];omega) (fun k hk=>(HO3.lt k hk).1));go_wp2_with fail;go_roundw
     case rel=>exact ⟨kk+1,by go_num,by omega,HO4.out,HE4.out⟩
     case measure=>simp [RowKit.intOf];omega
  ·have t1:decide ((kk:Int)<(q:Int))=false:=zF (by omega);have t2:decide (kk<q)=false:=zF hlt;have HTE:=zh (show L.take kk=L from List.take_of_length_le (by rw [HQ.out];omega));have HOE:=zh (show wr.ownsRow w.heap.size 9 1 u5 (bB L (inN v)).length (bo (bB L (inN v))) by have:=qcp hown (Nat.le_succ w.heap.size);rw [HTE.out] at this;exact this);clear hown;go_wp2_with fail;go_ret;exact ⟨_,rfl,HOE.out,HB.out⟩
end Cd
namespace Cd
open Go.Proofs Go.RowKit Go.Lib Utf Sc Re Tr
open Wo (Tl)
def qrg (w:World) (A:Option Addr) (len:Nat) (f:FuncId) (caps:Array Value) (q:Nat→Bool):Prop:=
 ∀ i,i<len→∀ W,Below w.heap.size w W→∃ (b off:Nat) (xk xn:Int) (xs:ByteArray) (xA:Option Addr) (xl xc:Nat) (xB:Option Addr) (xm xd:Nat),A=some ⟨b,off,none⟩∧(W.cell? ⟨b,off+i*5,none⟩=some (.int .i64 xk)∧W.cell? ⟨b,off+i*5+1,none⟩=some (.int .i64 xn)∧W.cell? ⟨b,off+i*5+2,none⟩=some (.string xs)∧W.cell? ⟨b,off+i*5+3,none⟩=some (.slice xA xl xc)∧W.cell? ⟨b,off+i*5+4,none⟩=some (.slice xB xm xd))∧
  Calls Tryz.prog f (#[.agg #[.int .i64 xk,.int .i64 xn,.string xs,.slice xA xl xc,.slice xB xm xd]]++caps) W (Tl (q i) W)
theorem qiN (A:Option Addr) (len cap:Nat) (hreach:len<4611686018427387904) (f:FuncId) (caps:Array Value) (q:Nat→Bool) (w:World)
  (en:∀ args w,(callFunc f args).run Tryz.prog w = .ok (.enter f args) w) (hE:qrg w A len f caps q) :
  Calls Tryz.prog 182 #[.slice A len cap,.func (.func f) #[] caps] w fun e w'=>∃ r:Int,e = .returned (.int .i64 r)∧decide (0≤r)=(List.range len).any q∧Below w.heap.size w w':=by
 have HE:Aside _:=hE;clear hE;go_enter Tryz.func182,Tryz.ntmps182;go_wp2_with fail;go_loopw [8] (fun i wr=>∃ k:Nat,i = .int .i64 k∧k≤len∧Aside (∀ j,j<k→q j=false)∧Aside (Below w.heap.size w wr)) (fun i _=>len-(intOf i).toNat)
 case atStart=>exact ⟨0,rfl,by omega,(show ∀ _ _,_ from fun j hj=>by omega),(show Below _ _ _ from Below.refl _ _)⟩
 case round=>
  obtain ⟨k,rfl,hk,hne,hbel⟩:=hrel;by_cases hlt:k<len
  ·have t1:decide ((k:Int)<(len:Int))=true:=zT (by omega);have t2:decide (k<len)=true:=zT hlt;have k0:(0:Int)≤(k:Int):=by omega
   have k1:(k:Int)<(len:Int):=by omega
   have k2:((k:Int)).toNat=k:=by omega
   obtain ⟨b,off,xk,xn,xs,xA,xl,xc,xB,xm,xd,rfl,⟨a0,a1,a2,a3,a4⟩,hcon⟩:=HE.out k hlt wr hbel.out;have HC:=zh hcon;clear hcon;obtain ⟨z,hz⟩:∃ z,q k=z:=⟨_,rfl⟩
   have HZ:=zh hz;rw [hz] at HC;clear hz;cases z with
   | true=>
    go_wp2_with fail;refine HC.out.mono ?_;rintro e w1 ⟨rfl,hb1⟩;have HB1:=zh (hbel.out.trans (hb1.mono hbel.out.size));clear hb1;go_wp2_with fail;go_ret;exact ⟨(k:Int),rfl,by rw [decide_eq_true k0];exact (List.any_eq_true.2 ⟨k,List.mem_range.2 hlt,HZ.out⟩).symm,HB1.out⟩
   | false=>
    go_wp2_with fail;refine HC.out.mono ?_;rintro e w1 ⟨rfl,hb1⟩;have HB1:=zh (hbel.out.trans (hb1.mono hbel.out.size));clear hb1;go_wp2_with fail;go_roundw
    case rel=>
     refine ⟨k+1,by go_num,by omega,?_,HB1.out⟩;refine (show ∀ _ _,_ from fun j hj=>?_);rcases Nat.lt_or_ge j k with c | c
     ·exact hne.out j c
     ·obtain rfl:j=k:=by omega
      exact HZ.out
    case measure=>simp [intOf];omega
  ·have t1:decide ((k:Int)<(len:Int))=false:=zF (by omega);have t2:decide (k<len)=false:=zF hlt;go_wp2_with fail;go_ret;refine ⟨-1,rfl,?_,hbel.out⟩;rw [zF (by omega)];refine (List.any_eq_false.2 fun x hx=>?_).symm;rw [hne.out x (by have:=List.mem_range.1 hx;omega)];simp
theorem qfa (A:Option Addr) (len cap:Nat) (hreach:len<4611686018427387904) (f:FuncId) (caps:Array Value) (q:Nat→Bool) (w:World)
  (en:∀ args w,(callFunc f args).run Tryz.prog w = .ok (.enter f args) w) (hE:qrg w A len f caps q) :
  Calls Tryz.prog 148 #[.slice A len cap,.func (.func f) #[] caps] w (Tl ((List.range len).any q) w):=by
 have HI:=zh (qiN A len cap hreach f caps q w en hE);obtain ⟨z,hz⟩:∃ z,(List.range len).any q=z:=⟨_,rfl⟩
 rw [hz] at HI ⊢;clear hz hE;go_enter Tryz.func148,Tryz.ntmps148;go_wp2_with fail;refine HI.out.mono ?_;rintro e w1 ⟨r,rfl,hr,hb⟩;have HB:=zh hb;clear hb;cases z with
 | true=>
  go_wp2_with fail;go_ret;exact ⟨rfl,HB.out⟩
 | false=>
  go_wp2_with fail;go_ret;exact ⟨rfl,HB.out⟩
def qmY (w:World) (A:Option Addr) (len:Nat) (f:FuncId) (caps:Array Value) (q:Nat→Bool):Prop:=
 ∀ i,i<len→∀ W,Below w.heap.size w W→∃ (b off:Nat) (X:ByteArray) (xk xn:Int) (xs:ByteArray) (xA:Option Addr) (xl xc:Nat) (xB:Option Addr) (xm xd:Nat),A=some ⟨b,off,none⟩∧(W.cell? ⟨b,off+i*6,none⟩=some (.string X)∧W.cell? ⟨b,off+i*6+1,none⟩=some (.int .i64 xk)∧W.cell? ⟨b,off+i*6+2,none⟩=some (.int .i64 xn)∧W.cell? ⟨b,off+i*6+3,none⟩=some (.string xs)∧W.cell? ⟨b,off+i*6+4,none⟩=some (.slice xA xl xc)∧W.cell? ⟨b,off+i*6+5,none⟩=some (.slice xB xm xd))∧
  Calls Tryz.prog f (#[.agg #[.string X,.int .i64 xk,.int .i64 xn,.string xs,.slice xA xl xc,.slice xB xm xd]]++caps) W (Tl (q i) W)
theorem qiL (A:Option Addr) (len cap:Nat) (hreach:len<4611686018427387904) (f:FuncId) (caps:Array Value) (q:Nat→Bool) (w:World)
  (en:∀ args w,(callFunc f args).run Tryz.prog w = .ok (.enter f args) w) (hE:qmY w A len f caps q) :
  Calls Tryz.prog 50 #[.slice A len cap,.func (.func f) #[] caps] w fun e w'=>∃ r:Int,e = .returned (.int .i64 r)∧decide (0≤r)=(List.range len).any q∧Below w.heap.size w w':=by
 have HE:Aside _:=hE;clear hE;go_enter Tryz.func50,Tryz.ntmps50;go_wp2_with fail;go_loopw [8] (fun i wr=>∃ k:Nat,i = .int .i64 k∧k≤len∧Aside (∀ j,j<k→q j=false)∧Aside (Below w.heap.size w wr)) (fun i _=>len-(intOf i).toNat)
 case atStart=>exact ⟨0,rfl,by omega,(show ∀ _ _,_ from fun j hj=>by omega),(show Below _ _ _ from Below.refl _ _)⟩
 case round=>
  obtain ⟨k,rfl,hk,hne,hbel⟩:=hrel;by_cases hlt:k<len
  ·have t1:decide ((k:Int)<(len:Int))=true:=zT (by omega);have t2:decide (k<len)=true:=zT hlt;have k0:(0:Int)≤(k:Int):=by omega
   have k1:(k:Int)<(len:Int):=by omega
   have k2:((k:Int)).toNat=k:=by omega
   obtain ⟨b,off,X,xk,xn,xs,xA,xl,xc,xB,xm,xd,rfl,⟨a0,a1,a2,a3,a4,a5⟩,hcon⟩:=HE.out k hlt wr hbel.out;have HC:=zh hcon;clear hcon;obtain ⟨z,hz⟩:∃ z,q k=z:=⟨_,rfl⟩
   have HZ:=zh hz;rw [hz] at HC;clear hz;cases z with
   | true=>
    go_wp2_with fail;refine HC.out.mono ?_;rintro e w1 ⟨rfl,hb1⟩;have HB1:=zh (hbel.out.trans (hb1.mono hbel.out.size));clear hb1;go_wp2_with fail;go_ret;exact ⟨(k:Int),rfl,by rw [decide_eq_true k0];exact (List.any_eq_true.2 ⟨k,List.mem_range.2 hlt,HZ.out⟩).symm,HB1.out⟩
   | false=>
    go_wp2_with fail;refine HC.out.mono ?_;rintro e w1 ⟨rfl,hb1⟩;have HB1:=zh (hbel.out.trans (hb1.mono hbel.out.size));clear hb1;go_wp2_with fail;go_roundw
    case rel=>
     refine ⟨k+1,by go_num,by omega,?_,HB1.out⟩;refine (show ∀ _ _,_ from fun j hj=>?_);rcases Nat.lt_or_ge j k with c | c
     ·exact hne.out j c
     ·obtain rfl:j=k:=by omega
      exact HZ.out
    case measure=>simp [intOf];omega
  ·have t1:decide ((k:Int)<(len:Int))=false:=zF (by omega);have t2:decide (k<len)=false:=zF hlt;go_wp2_with fail;go_ret;refine ⟨-1,rfl,?_,hbel.out⟩;rw [zF (by omega)];refine (List.any_eq_false.2 fun x hx=>?_).symm;rw [hne.out x (by have:=List.mem_range.1 hx;omega)];simp
theorem qbs (A:Option Addr) (len cap:Nat) (hreach:len<4611686018427387904) (f:FuncId) (caps:Array Value) (q:Nat→Bool) (w:World)
  (en:∀ args w,(callFunc f args).run Tryz.prog w = .ok (.enter f args) w) (hE:qmY w A len f caps q) :
  Calls Tryz.prog 151 #[.slice A len cap,.func (.func f) #[] caps] w (Tl ((List.range len).any q) w):=by
 have HI:=zh (qiL A len cap hreach f caps q w en hE);obtain ⟨z,hz⟩:∃ z,(List.range len).any q=z:=⟨_,rfl⟩
 rw [hz] at HI ⊢;clear hz hE;go_enter Tryz.func151,Tryz.ntmps151;go_wp2_with fail;refine HI.out.mono ?_;rintro e w1 ⟨r,rfl,hr,hb⟩;have HB:=zh hb;clear hb;cases z with
 | true=>
  go_wp2_with fail;go_ret;exact ⟨rfl,HB.out⟩
 | false=>
  go_wp2_with fail;go_ret;exact ⟨rfl,HB.out⟩
theorem qfK {α : Type} (l:List α) (p : α →Bool) (q:Nat→Bool) (h:∀ i (hi:i<l.length),q i=p l[i]):(List.range l.length).any q=l.any p:=by
 rw [Bool.eq_iff_iff,List.any_eq_true,List.any_eq_true];constructor
 ·rintro ⟨i,hi,e⟩;have hi:=List.mem_range.1 hi;exact ⟨l[i],List.getElem_mem hi,by rw [←h i hi];exact e⟩
 ·rintro ⟨x,hx,e⟩;obtain ⟨i,hi,rfl⟩:=List.getElem_of_mem hx;exact ⟨i,List.mem_range.2 hi,by rw [h i hi];exact e⟩
end Cd
namespace Cd
open Go.Proofs Go.RowKit Go.Lib Utf Sc Re Tr
open Wo (Tl qdS dG eV inS)
theorem qrH (w:World):FnS w 78 #[] (fun _=>true):=⟨enters_of Tryz.func78 (by kernel_rfl) rfl,fun S W _ _=>qmc S W⟩
theorem qeH (w:World):FnS w 79 #[] bU:=⟨enters_of Tryz.func79 (by kernel_rfl) rfl,fun S W _ _=>qg1 S W⟩
theorem qrn (w:World):FnS w 80 #[] Id.isL:=⟨enters_of Tryz.func80 (by kernel_rfl) rfl,fun S W h _=>Id.qsc S W h⟩
theorem qnE (w:World) (hT:St.Tab w):FnS w 81 #[] (fun l=>decide (St.cA l)):=⟨enters_of Tryz.func81 (by kernel_rfl) rfl,fun S W h hW=>St.qoQ S W (hT.below hW) h⟩
theorem qf1 (w:World):FnS w 82 #[] qdS:=⟨enters_of Tryz.func82 (by kernel_rfl) rfl,fun S W h _=>Wo.qqE S W h⟩
theorem qoR (w:World):FnS w 83 #[] dG:=⟨enters_of Tryz.func83 (by kernel_rfl) rfl,fun S W h _=>Wo.qlk S W h⟩
theorem qpV (w:World):FnS w 84 #[] eV:=⟨enters_of Tryz.func84 (by kernel_rfl) rfl,fun S W h _=>Wo.qo3 S W h⟩
theorem qiK (b:Nat) (ar:List UInt8) (S:ByteArray) (w:World) (hb:w.cell? ⟨b,2,none⟩=some (.string (aa ar))) (ha:ar.length≤9223372036854775807) :
  Calls Tryz.prog 75 #[.string S,.pointer (some ⟨b,0,none⟩)] w (Tl (inS ar S.data.toList) w):=by
 have HI:=zh (Wo.qr8 (aa ar) S w ha);rw [aD] at HI;generalize inS ar S.data.toList=r at *;generalize aa ar=X at *;clear ha;go_enter Tryz.func75,Tryz.ntmps75;go_wp2_with fail;refine HI.out.mono ?_;rintro e w1 ⟨rfl,hbl⟩;have HB:=zh hbl;clear hbl;go_wp2_with fail;go_ret;exact ⟨rfl,HB.out⟩
theorem qkb (w:World) (b:Nat) (ar:List UInt8) (hl:b<w.heap.size) (hb:w.cell? ⟨b,2,none⟩=some (.string (aa ar))) (ha:ar.length≤9223372036854775807) :
  FnS w 75 #[.pointer (some ⟨b,0,none⟩)] (inS ar):=
 ⟨enters_of Tryz.func75 (by kernel_rfl) rfl,fun S W _ hW=>qiK b ar S W ((hW.cell (p:=⟨b,2,none⟩) hl).trans hb) ha⟩
theorem qlp (pn:ByteArray) (ar:List UInt8) (mu:Bool) (df:ByteArray) (k n:Int) (S:ByteArray) (A A2:Option Addr) (l c m d:Nat) (w:World) (hS:S.size≤9223372036854775807) :
  Calls Tryz.prog 43 #[.agg #[.string pn,.int .i64 1,.string (aa ar),.bool mu,.string df],.agg #[.int .i64 k,.int .i64 n,.string S,.slice A l c,.slice A2 m d]] w (Tl (decide (k=4∧S.size≤1024)&&(fun _=>true) S.data.toList) w):=by
 obtain ⟨W0,HB0,HS0,HP0,HV0, -, -,HW0⟩:=zw w #[.string pn,.int .i64 1,.string (aa ar),.bool mu,.string df] #[.int .i64 k,.int .i64 n,.string S,.slice A l c,.slice A2 m d] 76 25;have HF:=zh (bO (qrH W0) k n S A A2 l c m d hS W0 (Below.refl _ _));generalize (decide (k=4∧S.size≤1024)&&(fun _=>true) S.data.toList)=r at *;clear hS;go_enter Tryz.func43,Tryz.ntmps43;have q:=HP0.out;rw [HW0.out] at q;obtain ⟨⟨p0,p1,p2,p3,p4⟩, -⟩:=Sm.aU q;clear q;have q:=HV0.out;rw [HW0.out] at q;obtain ⟨⟨v0,v1,v2,v3,v4⟩, -⟩:=ae q;clear q;go_wp2_with fail;rw [←HW0.out];refine HF.out.mono ?_;rintro e w1 ⟨rfl,hb⟩;have HB:=zB hb HB0;clear hb p0 p1 p2 p3 p4 v0 v1 v2 v3 v4;go_wp2_with fail;go_ret;exact ⟨rfl,HB.out⟩
theorem qmv (pn:ByteArray) (ar:List UInt8) (mu:Bool) (df:ByteArray) (k n:Int) (S:ByteArray) (A A2:Option Addr) (l c m d:Nat) (w:World) (hS:S.size≤9223372036854775807) :
  Calls Tryz.prog 43 #[.agg #[.string pn,.int .i64 2,.string (aa ar),.bool mu,.string df],.agg #[.int .i64 k,.int .i64 n,.string S,.slice A l c,.slice A2 m d]] w (Tl (decide (k=4∧S.size≤1024)&&(bU) S.data.toList) w):=by
 obtain ⟨W0,HB0,HS0,HP0,HV0, -, -,HW0⟩:=zw w #[.string pn,.int .i64 2,.string (aa ar),.bool mu,.string df] #[.int .i64 k,.int .i64 n,.string S,.slice A l c,.slice A2 m d] 76 25;have HF:=zh (bO (qeH W0) k n S A A2 l c m d hS W0 (Below.refl _ _));generalize (decide (k=4∧S.size≤1024)&&(bU) S.data.toList)=r at *;clear hS;go_enter Tryz.func43,Tryz.ntmps43;have q:=HP0.out;rw [HW0.out] at q;obtain ⟨⟨p0,p1,p2,p3,p4⟩, -⟩:=Sm.aU q;clear q;have q:=HV0.out;rw [HW0.out] at q;obtain ⟨⟨v0,v1,v2,v3,v4⟩, -⟩:=ae q;clear q;go_wp2_with fail;rw [←HW0.out];refine HF.out.mono ?_;rintro e w1 ⟨rfl,hb⟩;have HB:=zB hb HB0;clear hb p0 p1 p2 p3 p4 v0 v1 v2 v3 v4;go_wp2_with fail;go_ret;exact ⟨rfl,HB.out⟩
theorem qlY (pn:ByteArray) (ar:List UInt8) (mu:Bool) (df:ByteArray) (k n:Int) (S:ByteArray) (A A2:Option Addr) (l c m d:Nat) (w:World) (hS:S.size≤9223372036854775807) :
  Calls Tryz.prog 43 #[.agg #[.string pn,.int .i64 6,.string (aa ar),.bool mu,.string df],.agg #[.int .i64 k,.int .i64 n,.string S,.slice A l c,.slice A2 m d]] w (Tl (decide (k=4∧S.size≤1024)&&(Id.isL) S.data.toList) w):=by
 obtain ⟨W0,HB0,HS0,HP0,HV0, -, -,HW0⟩:=zw w #[.string pn,.int .i64 6,.string (aa ar),.bool mu,.string df] #[.int .i64 k,.int .i64 n,.string S,.slice A l c,.slice A2 m d] 76 25;have HF:=zh (bO (qrn W0) k n S A A2 l c m d hS W0 (Below.refl _ _));generalize (decide (k=4∧S.size≤1024)&&(Id.isL) S.data.toList)=r at *;clear hS;go_enter Tryz.func43,Tryz.ntmps43;have q:=HP0.out;rw [HW0.out] at q;obtain ⟨⟨p0,p1,p2,p3,p4⟩, -⟩:=Sm.aU q;clear q;have q:=HV0.out;rw [HW0.out] at q;obtain ⟨⟨v0,v1,v2,v3,v4⟩, -⟩:=ae q;clear q;go_wp2_with fail;rw [←HW0.out];refine HF.out.mono ?_;rintro e w1 ⟨rfl,hb⟩;have HB:=zB hb HB0;clear hb p0 p1 p2 p3 p4 v0 v1 v2 v3 v4;go_wp2_with fail;go_ret;exact ⟨rfl,HB.out⟩
theorem qmG (pn:ByteArray) (ar:List UInt8) (mu:Bool) (df:ByteArray) (k n:Int) (S:ByteArray) (A A2:Option Addr) (l c m d:Nat) (w:World) (hS:S.size≤9223372036854775807) (hT:St.Tab w) :
  Calls Tryz.prog 43 #[.agg #[.string pn,.int .i64 7,.string (aa ar),.bool mu,.string df],.agg #[.int .i64 k,.int .i64 n,.string S,.slice A l c,.slice A2 m d]] w (Tl (decide (k=4∧S.size≤1024)&&(fun l=>decide (St.cA l)) S.data.toList) w):=by
 obtain ⟨W0,HB0,HS0,HP0,HV0, -, -,HW0⟩:=zw w #[.string pn,.int .i64 7,.string (aa ar),.bool mu,.string df] #[.int .i64 k,.int .i64 n,.string S,.slice A l c,.slice A2 m d] 76 25;have HF:=zh (bO (qnE W0 (hT.below HB0.out)) k n S A A2 l c m d hS W0 (Below.refl _ _));generalize (decide (k=4∧S.size≤1024)&&(fun l=>decide (St.cA l)) S.data.toList)=r at *;clear hS hT;go_enter Tryz.func43,Tryz.ntmps43;have q:=HP0.out;rw [HW0.out] at q;obtain ⟨⟨p0,p1,p2,p3,p4⟩, -⟩:=Sm.aU q;clear q;have q:=HV0.out;rw [HW0.out] at q;obtain ⟨⟨v0,v1,v2,v3,v4⟩, -⟩:=ae q;clear q;go_wp2_with fail;rw [←HW0.out];refine HF.out.mono ?_;rintro e w1 ⟨rfl,hb⟩;have HB:=zB hb HB0;clear hb p0 p1 p2 p3 p4 v0 v1 v2 v3 v4;go_wp2_with fail;go_ret;exact ⟨rfl,HB.out⟩
theorem qlt (pn:ByteArray) (ar:List UInt8) (mu:Bool) (df:ByteArray) (k n:Int) (S:ByteArray) (A A2:Option Addr) (l c m d:Nat) (w:World) (hS:S.size≤9223372036854775807) :
  Calls Tryz.prog 43 #[.agg #[.string pn,.int .i64 8,.string (aa ar),.bool mu,.string df],.agg #[.int .i64 k,.int .i64 n,.string S,.slice A l c,.slice A2 m d]] w (Tl (decide (k=4∧S.size≤1024)&&(qdS) S.data.toList) w):=by
 obtain ⟨W0,HB0,HS0,HP0,HV0, -, -,HW0⟩:=zw w #[.string pn,.int .i64 8,.string (aa ar),.bool mu,.string df] #[.int .i64 k,.int .i64 n,.string S,.slice A l c,.slice A2 m d] 76 25;have HF:=zh (bO (qf1 W0) k n S A A2 l c m d hS W0 (Below.refl _ _));generalize (decide (k=4∧S.size≤1024)&&(qdS) S.data.toList)=r at *;clear hS;go_enter Tryz.func43,Tryz.ntmps43;have q:=HP0.out;rw [HW0.out] at q;obtain ⟨⟨p0,p1,p2,p3,p4⟩, -⟩:=Sm.aU q;clear q;have q:=HV0.out;rw [HW0.out] at q;obtain ⟨⟨v0,v1,v2,v3,v4⟩, -⟩:=ae q;clear q;go_wp2_with fail;rw [←HW0.out];refine HF.out.mono ?_;rintro e w1 ⟨rfl,hb⟩;have HB:=zB hb HB0;clear hb p0 p1 p2 p3 p4 v0 v1 v2 v3 v4;go_wp2_with fail;go_ret;exact ⟨rfl,HB.out⟩
theorem qlu (pn:ByteArray) (ar:List UInt8) (mu:Bool) (df:ByteArray) (k n:Int) (S:ByteArray) (A A2:Option Addr) (l c m d:Nat) (w:World) (hS:S.size≤9223372036854775807) :
  Calls Tryz.prog 43 #[.agg #[.string pn,.int .i64 9,.string (aa ar),.bool mu,.string df],.agg #[.int .i64 k,.int .i64 n,.string S,.slice A l c,.slice A2 m d]] w (Tl (decide (k=4∧S.size≤1024)&&(dG) S.data.toList) w):=by
 obtain ⟨W0,HB0,HS0,HP0,HV0, -, -,HW0⟩:=zw w #[.string pn,.int .i64 9,.string (aa ar),.bool mu,.string df] #[.int .i64 k,.int .i64 n,.string S,.slice A l c,.slice A2 m d] 76 25;have HF:=zh (bO (qoR W0) k n S A A2 l c m d hS W0 (Below.refl _ _));generalize (decide (k=4∧S.size≤1024)&&(dG) S.data.toList)=r at *;clear hS;go_enter Tryz.func43,Tryz.ntmps43;have q:=HP0.out;rw [HW0.out] at q;obtain ⟨⟨p0,p1,p2,p3,p4⟩, -⟩:=Sm.aU q;clear q;have q:=HV0.out;rw [HW0.out] at q;obtain ⟨⟨v0,v1,v2,v3,v4⟩, -⟩:=ae q;clear q;go_wp2_with fail;rw [←HW0.out];refine HF.out.mono ?_;rintro e w1 ⟨rfl,hb⟩;have HB:=zB hb HB0;clear hb p0 p1 p2 p3 p4 v0 v1 v2 v3 v4;go_wp2_with fail;go_ret;exact ⟨rfl,HB.out⟩
theorem qiS (pn:ByteArray) (ar:List UInt8) (mu:Bool) (df:ByteArray) (k n:Int) (S:ByteArray) (A A2:Option Addr) (l c m d:Nat) (w:World) (hS:S.size≤9223372036854775807) :
  Calls Tryz.prog 43 #[.agg #[.string pn,.int .i64 10,.string (aa ar),.bool mu,.string df],.agg #[.int .i64 k,.int .i64 n,.string S,.slice A l c,.slice A2 m d]] w (Tl (decide (k=4∧S.size≤1024)&&(eV) S.data.toList) w):=by
 obtain ⟨W0,HB0,HS0,HP0,HV0, -, -,HW0⟩:=zw w #[.string pn,.int .i64 10,.string (aa ar),.bool mu,.string df] #[.int .i64 k,.int .i64 n,.string S,.slice A l c,.slice A2 m d] 76 25;have HF:=zh (bO (qpV W0) k n S A A2 l c m d hS W0 (Below.refl _ _));generalize (decide (k=4∧S.size≤1024)&&(eV) S.data.toList)=r at *;clear hS;go_enter Tryz.func43,Tryz.ntmps43;have q:=HP0.out;rw [HW0.out] at q;obtain ⟨⟨p0,p1,p2,p3,p4⟩, -⟩:=Sm.aU q;clear q;have q:=HV0.out;rw [HW0.out] at q;obtain ⟨⟨v0,v1,v2,v3,v4⟩, -⟩:=ae q;clear q;go_wp2_with fail;rw [←HW0.out];refine HF.out.mono ?_;rintro e w1 ⟨rfl,hb⟩;have HB:=zB hb HB0;clear hb p0 p1 p2 p3 p4 v0 v1 v2 v3 v4;go_wp2_with fail;go_ret;exact ⟨rfl,HB.out⟩
theorem qjk (pn:ByteArray) (ar:List UInt8) (mu:Bool) (df:ByteArray) (k n:Int) (S:ByteArray) (A A2:Option Addr) (l c m d:Nat) (w:World) (hS:S.size≤9223372036854775807) (ha:ar.length≤9223372036854775807) :
  Calls Tryz.prog 43 #[.agg #[.string pn,.int .i64 11,.string (aa ar),.bool mu,.string df],.agg #[.int .i64 k,.int .i64 n,.string S,.slice A l c,.slice A2 m d]] w (Tl (decide (k=4∧S.size≤1024)&&(inS ar) S.data.toList) w):=by
 obtain ⟨W0,HB0,HS0,HP0,HV0, -, -,HW0⟩:=zw w #[.string pn,.int .i64 11,.string (aa ar),.bool mu,.string df] #[.int .i64 k,.int .i64 n,.string S,.slice A l c,.slice A2 m d] 76 25;have HF:=zh (bO (qkb W0 w.heap.size ar (by rw [HS0.out];omega) (Sm.aU HP0.out).1.2.2.1 ha) k n S A A2 l c m d hS W0 (Below.refl _ _));generalize (decide (k=4∧S.size≤1024)&&(inS ar) S.data.toList)=r at *;clear hS ha;go_enter Tryz.func43,Tryz.ntmps43;have q:=HP0.out;rw [HW0.out] at q;obtain ⟨⟨p0,p1,p2,p3,p4⟩, -⟩:=Sm.aU q;clear q;have q:=HV0.out;rw [HW0.out] at q;obtain ⟨⟨v0,v1,v2,v3,v4⟩, -⟩:=ae q;clear q;go_wp2_with fail;rw [←HW0.out];refine HF.out.mono ?_;rintro e w1 ⟨rfl,hb⟩;have HB:=zB hb HB0;clear hb p0 p1 p2 p3 p4 v0 v1 v2 v3 v4;go_wp2_with fail;go_ret;exact ⟨rfl,HB.out⟩
theorem qkY (pn:ByteArray) (ar:List UInt8) (mu:Bool) (df:ByteArray) (k n:Int) (S:ByteArray) (A A2:Option Addr) (l c m d:Nat) (w:World) :
  Calls Tryz.prog 43 #[.agg #[.string pn,.int .i64 3,.string (aa ar),.bool mu,.string df],.agg #[.int .i64 k,.int .i64 n,.string S,.slice A l c,.slice A2 m d]] w (Tl (decide (k=2)) w):=by
 obtain ⟨W0,HB0,HS0,HP0,HV0, -, -,HW0⟩:=zw w #[.string pn,.int .i64 3,.string (aa ar),.bool mu,.string df] #[.int .i64 k,.int .i64 n,.string S,.slice A l c,.slice A2 m d] 76 25;by_cases hk:k=2
 ·subst hk;have HQ:=zh (show (decide ((2:Int)=2))=true from rfl);rw [HQ.out];go_enter Tryz.func43,Tryz.ntmps43;have q:=HP0.out;rw [HW0.out] at q;obtain ⟨⟨p0,p1,p2,p3,p4⟩, -⟩:=Sm.aU q;clear q;have q:=HV0.out;rw [HW0.out] at q;obtain ⟨⟨v0,v1,v2,v3,v4⟩, -⟩:=ae q;clear q;go_wp2_with fail;go_ret;exact ⟨rfl,by rw [←HW0.out];exact HB0.out⟩
 ·have t1:(k==2)=false:=beq_eq_false_iff_ne.2 hk;have HQ:=zh (show (decide (k=2))=false from zF hk);rw [HQ.out];go_enter Tryz.func43,Tryz.ntmps43;have q:=HP0.out;rw [HW0.out] at q;obtain ⟨⟨p0,p1,p2,p3,p4⟩, -⟩:=Sm.aU q;clear q;have q:=HV0.out;rw [HW0.out] at q;obtain ⟨⟨v0,v1,v2,v3,v4⟩, -⟩:=ae q;clear q;go_wp2_with fail;go_ret;exact ⟨rfl,by rw [←HW0.out];exact HB0.out⟩
theorem qlw (pn:ByteArray) (ar:List UInt8) (mu:Bool) (df:ByteArray) (k n:Int) (S:ByteArray) (A A2:Option Addr) (l c m d:Nat) (w:World) :
  Calls Tryz.prog 43 #[.agg #[.string pn,.int .i64 4,.string (aa ar),.bool mu,.string df],.agg #[.int .i64 k,.int .i64 n,.string S,.slice A l c,.slice A2 m d]] w (Tl (decide (k=3∧0≤n)) w):=by
 obtain ⟨W0,HB0,HS0,HP0,HV0, -, -,HW0⟩:=zw w #[.string pn,.int .i64 4,.string (aa ar),.bool mu,.string df] #[.int .i64 k,.int .i64 n,.string S,.slice A l c,.slice A2 m d] 76 25;by_cases hk:k=3
 ·subst hk;by_cases hn:0≤n
  ·have t2:decide (0≤n)=true:=zT hn;have HQ:=zh (show (decide ((3:Int)=3∧0≤n))=true from decide_eq_true ⟨rfl,hn⟩);rw [HQ.out];go_enter Tryz.func43,Tryz.ntmps43;have q:=HP0.out;rw [HW0.out] at q;obtain ⟨⟨p0,p1,p2,p3,p4⟩, -⟩:=Sm.aU q;clear q;have q:=HV0.out;rw [HW0.out] at q;obtain ⟨⟨v0,v1,v2,v3,v4⟩, -⟩:=ae q;clear q;go_wp2_with fail;go_ret;exact ⟨rfl,by rw [←HW0.out];exact HB0.out⟩
  ·have t2:decide (0≤n)=false:=zF hn;have HQ:=zh (show (decide ((3:Int)=3∧0≤n))=false from decide_eq_false fun h=>hn h.2);rw [HQ.out];go_enter Tryz.func43,Tryz.ntmps43;have q:=HP0.out;rw [HW0.out] at q;obtain ⟨⟨p0,p1,p2,p3,p4⟩, -⟩:=Sm.aU q;clear q;have q:=HV0.out;rw [HW0.out] at q;obtain ⟨⟨v0,v1,v2,v3,v4⟩, -⟩:=ae q;clear q;go_wp2_with fail;go_ret;exact ⟨rfl,by rw [←HW0.out];exact HB0.out⟩
 ·have t1:(k==3)=false:=beq_eq_false_iff_ne.2 hk;have HQ:=zh (show (decide (k=3∧0≤n))=false from decide_eq_false fun h=>hk h.1);rw [HQ.out];go_enter Tryz.func43,Tryz.ntmps43;have q:=HP0.out;rw [HW0.out] at q;obtain ⟨⟨p0,p1,p2,p3,p4⟩, -⟩:=Sm.aU q;clear q;have q:=HV0.out;rw [HW0.out] at q;obtain ⟨⟨v0,v1,v2,v3,v4⟩, -⟩:=ae q;clear q;go_wp2_with fail;go_ret;exact ⟨rfl,by rw [←HW0.out];exact HB0.out⟩
theorem qkV (pn:ByteArray) (ar:List UInt8) (mu:Bool) (df:ByteArray) (k n:Int) (S:ByteArray) (A A2:Option Addr) (l c m d:Nat) (w:World) :
  Calls Tryz.prog 43 #[.agg #[.string pn,.int .i64 5,.string (aa ar),.bool mu,.string df],.agg #[.int .i64 k,.int .i64 n,.string S,.slice A l c,.slice A2 m d]] w (Tl (decide (k=3∧1≤n∧n≤100)) w):=by
 obtain ⟨W0,HB0,HS0,HP0,HV0, -, -,HW0⟩:=zw w #[.string pn,.int .i64 5,.string (aa ar),.bool mu,.string df] #[.int .i64 k,.int .i64 n,.string S,.slice A l c,.slice A2 m d] 76 25;by_cases hk:k=3
 ·subst hk;by_cases hn:1≤n
  ·have t2:decide (1≤n)=true:=zT hn;by_cases hm:n≤100
   ·have t3:decide (n≤100)=true:=zT hm;have HQ:=zh (show (decide ((3:Int)=3∧1≤n∧n≤100))=true from decide_eq_true ⟨rfl,hn,hm⟩);rw [HQ.out];go_enter Tryz.func43,Tryz.ntmps43;have q:=HP0.out;rw [HW0.out] at q;obtain ⟨⟨p0,p1,p2,p3,p4⟩, -⟩:=Sm.aU q;clear q;have q:=HV0.out;rw [HW0.out] at q;obtain ⟨⟨v0,v1,v2,v3,v4⟩, -⟩:=ae q;clear q;go_wp2_with fail;go_ret;exact ⟨rfl,by rw [←HW0.out];exact HB0.out⟩
   ·have t3:decide (n≤100)=false:=zF hm;have HQ:=zh (show (decide ((3:Int)=3∧1≤n∧n≤100))=false from decide_eq_false fun h=>hm h.2.2);rw [HQ.out];go_enter Tryz.func43,Tryz.ntmps43;have q:=HP0.out;rw [HW0.out] at q;obtain ⟨⟨p0,p1,p2,p3,p4⟩, -⟩:=Sm.aU q;clear q;have q:=HV0.out;rw [HW0.out] at q;obtain ⟨⟨v0,v1,v2,v3,v4⟩, -⟩:=ae q;clear q;go_wp2_with fail;go_ret;exact ⟨rfl,by rw [←HW0.out];exact HB0.out⟩
  ·have t2:decide (1≤n)=false:=zF hn;have HQ:=zh (show (decide ((3:Int)=3∧1≤n∧n≤100))=false from decide_eq_false fun h=>hn h.2.1);rw [HQ.out];go_enter Tryz.func43,Tryz.ntmps43;have q:=HP0.out;rw [HW0.out] at q;obtain ⟨⟨p0,p1,p2,p3,p4⟩, -⟩:=Sm.aU q;clear q;have q:=HV0.out;rw [HW0.out] at q;obtain ⟨⟨v0,v1,v2,v3,v4⟩, -⟩:=ae q;clear q;go_wp2_with fail;go_ret;exact ⟨rfl,by rw [←HW0.out];exact HB0.out⟩
 ·have t1:(k==3)=false:=beq_eq_false_iff_ne.2 hk;have HQ:=zh (show (decide (k=3∧1≤n∧n≤100))=false from decide_eq_false fun h=>hk h.1);rw [HQ.out];go_enter Tryz.func43,Tryz.ntmps43;have q:=HP0.out;rw [HW0.out] at q;obtain ⟨⟨p0,p1,p2,p3,p4⟩, -⟩:=Sm.aU q;clear q;have q:=HV0.out;rw [HW0.out] at q;obtain ⟨⟨v0,v1,v2,v3,v4⟩, -⟩:=ae q;clear q;go_wp2_with fail;go_ret;exact ⟨rfl,by rw [←HW0.out];exact HB0.out⟩
