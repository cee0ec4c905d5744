/- Merged: CdM CdRd CdT CdAw. -/
import Derived.Test.YtnecfkhbncepnaaGreatDoorTt56
import Derived.Test.YtnecfkhbncepnaaGreatDoorTt50
import Derived.Test.YtnecfkhbncepnaaGreatDoorTt61
set_option maxRecDepth 100000
set_option maxHeartbeats 4000000
namespace Go.Proofs.YtnecfkhbncepnaaGreatDoor
namespace Cd
open Go.Proofs Go.RowKit Go.Lib Utf Sc Re Tr
open Sm (Pr RdP ae bC nm0)
open Po (aV aL dz)
open Wo (Tl)
def qg4 (g:Bool) (m:List UInt8×V):Bool:= !cR aH nm0 m || (decide (m.1=bg)&& !g)
def cK (g:Bool) (l:List (List UInt8×V)):List (List UInt8):=(l.filter (qg4 g)).map Prod.fst
theorem qmr (g:Bool) (l:List (List UInt8×V)) (m:List UInt8×V):cK g (l++[m])=cK g l++(if qg4 g m=true then [m.1] else []):=by
 unfold cK;rw [List.filter_append,List.map_append]
 congr 1
 by_cases h:qg4 g m=true
 ·rw [List.filter_cons,if_pos h,if_pos h];rfl
 ·rw [List.filter_cons,if_neg h,if_neg h];rfl
theorem qh7 (g:Bool) (l:List (List UInt8×V)):(cK g l).length≤l.length:=by
 unfold cK;rw [List.length_map];exact List.length_filter_le _ _
theorem qf9 {v:V} (hk:v.k=6) (hl:v.ns.length=v.ms.length):qao (dw v bO) cE=true↔∃ t,fst (mem v) bO=some t∧t.k=4∧t.s=cE:=by
 have hg:gt v bO=fst (mem v) bO:=by unfold gt;rw [if_pos hk]
 by_cases h:bO∈inN v
 ·rw [←hg,qgm hl h];unfold qao;rw [decide_eq_true_iff];constructor
  ·intro h2;exact ⟨_,rfl,h2⟩
  ·rintro ⟨t,e,h2⟩;injection e with e;subst e;exact h2
 ·rw [←hg,qhp h];have hll:(inN v).length=(inM v).length:=by unfold inN inM;rw [if_pos hk,if_pos hk];exact hl
  rw [qcX hll h];constructor
  ·intro h2;cases h2
  ·rintro ⟨t,e, -⟩;cases e
theorem qqh {v:V} (hk:v.k=6) (hl:v.ns.length=v.ms.length) (n:List UInt8):n∈bD (ae nm0) v.ns++cK (qao (dw v bO) cE) (mem v)↔ca v n=true:=by
 rw [qbg hk,List.mem_append];unfold bD cK;simp only [List.mem_map,List.mem_filter];constructor
 ·rintro (⟨p,⟨h1,h2⟩,rfl⟩ | ⟨m,⟨h1,h2⟩,rfl⟩)
  ·simp only [Bool.and_eq_true,Bool.not_eq_true',decide_eq_false_iff_not] at h2;exact .inr (.inl ⟨p,h1,h2.1,rfl,h2.2⟩)
  ·unfold qg4 at h2;simp only [Bool.or_eq_true,Bool.not_eq_true',Bool.and_eq_true,decide_eq_true_eq] at h2;rcases h2 with h2 | ⟨h2,h3⟩
   ·exact .inl ⟨m,h1,rfl,h2⟩
   ·refine .inr (.inr ⟨h2,by rw [←h2];exact qkJ h1,fun h4=>?_⟩);rw [(qf9 hk hl).2 h4] at h3;cases h3
 ·rintro (⟨m,h1,rfl,h2⟩ | ⟨p,h1,h2,rfl,h3⟩ | ⟨rfl,h1,h2⟩)
  ·exact .inr ⟨m,⟨h1,by unfold qg4;rw [h2];rfl⟩,rfl⟩
  ·exact .inl ⟨p,⟨h1,by rw [h2,zF h3];rfl⟩,rfl⟩
  ·obtain ⟨i,hi,e⟩:=List.getElem_of_mem h1;have hz:i<(v.ns.zip v.ms).length:=by rw [List.length_zip];omega
   refine .inr ⟨(v.ns.zip v.ms)[i],⟨List.getElem_mem hz,?_⟩,by rw [List.getElem_zip];exact e⟩;unfold qg4;have hg:qao (dw v bO) cE=false:=by
    cases hc:qao (dw v bO) cE with
    | false=>rfl
    | true=>exact absurd ((qf9 hk hl).1 hc) h2
   rw [hg,show ((v.ns.zip v.ms)[i]).1=bg by rw [List.getElem_zip];exact e,decide_eq_true rfl];simp
theorem bL (v:V) (cs:List Value) (w:World) (hT:St.Tab w) (hv:RdA w 0 w.heap.size v cs) (hz:szA 4611686018427387904 v) (hmm:v.ms.length≤2000000000000):Calls Tryz.prog 7 #[.agg cs.toArray] w (qrq v w):=by
 obtain ⟨i1,hj,hy0,hy1,hy2⟩:=info_parts Wo.qjN;obtain ⟨A,c,A2,d,rfl,hn, -,hl⟩:=id hv.cells;obtain ⟨-, -, -, -,z5,z6, -,z8⟩:=(b9 _ v).1 hz;have HPR:=zh (fun (u:World)=>(show Calls Tryz.prog 17 #[.string ⟨#[67,97,114,100]⟩] u (Sm.al 76 (ae nm0) u) from Sm.qbO (aa nm0) u));have HLA:=zh (fun (P:Value) (u:World) (hu:Below w.heap.size w u) (hP:RdP u u.heap.size P (ae nm0))=>qdf (ae nm0) P v _ u hP (Nat.le_trans (qbh nm0) (by decide)) (hv.below hu (Nat.le_refl _) hu.size) hz);have HGR:=zh (fun (u:World) (hu:Below w.heap.size w u)=>qii v _ u (hv.below hu (Nat.le_refl _) hu.size) hz);have HIT:=zh (show ∀ i,i<v.ms.length→∃ g o,A2=some ⟨g,o,none⟩∧g<w.heap.size∧∃ (nm:List UInt8) (x:V) (xA:Option Addr) (xc:Nat) (xB:Option Addr) (xd:Nat),(mem v).take (i+1)=(mem v).take i++[(nm,x)]∧
   (w.cell? ⟨g,o+i*6,none⟩=some (.string (aa nm))∧w.cell? ⟨g,o+i*6+1,none⟩=some (.int .i64 x.k)∧w.cell? ⟨g,o+i*6+2,none⟩=some (.int .i64 x.n)∧w.cell? ⟨g,o+i*6+3,none⟩=some (.string (aa x.s))∧w.cell? ⟨g,o+i*6+4,none⟩=some (.slice xA x.l.length xc)∧w.cell? ⟨g,o+i*6+5,none⟩=some (.slice xB x.ms.length xd))∧
   ∀ (P:Value) (u:World),Below w.heap.size w u→RdP u u.heap.size P (ae nm0)→Calls Tryz.prog 20 #[.string ⟨#[67,97,114,100]⟩,P,.agg #[.string (aa nm),.int .i64 x.k,.int .i64 x.n,.string (aa x.s),.slice xA x.l.length xc,.slice xB x.ms.length xd]] u (Tl (cR aH nm0 (nm,x)) u) from fun i hi=>by
  have hin:i<v.ns.length:=by omega
  obtain ⟨g,o,e, -,hg,hr⟩:=hl (by omega);obtain ⟨hcn,xs,hcell,hx⟩:=hr.at_ v.ms v.ns o i hi hin;obtain ⟨xA,xc,xB,xd,rfl, -⟩:=id hx.cells;have hzl:i<(mem v).length:=by unfold mem;rw [List.length_zip];omega
  refine ⟨g,o,e,hg,v.ns[i],v.ms[i],xA,xc,xB,xd,?_,⟨hcn,hcell 0 _ rfl,hcell 1 _ rfl,hcell 2 _ rfl,hcell 3 _ rfl,hcell 4 _ rfl⟩,fun P u hu hP=>?_⟩
  ·have e2:(mem v)[i]=(v.ns[i],v.ms[i]):=by show (v.ns.zip v.ms)[i]'hzl=_;exact List.getElem_zip
   rw [cn (mem v) i hzl,e2]
  ·exact qgd (qm1 (ht v)) nm0 v.ns[i] P v.ms[i] _ u (qdh (List.getElem_mem hi)) (hT.below hu) hP (by have:=z6 _ (List.getElem_mem hin);omega) (hx.below hu (Nat.le_refl _) hu.size) (aW z8 (List.getElem_mem hi)))
 have HNO:=zh (show v.k≠6→∀ n,n∈[cD]↔ca v n=true from fun hk n=>by unfold ca;rw [if_neg hk,List.mem_singleton,decide_eq_true_iff]);have HYS:=zh (show v.k=6→∀ n,n∈qbp (bD (ae nm0) v.ns++cK (qao (dw v bO) cE) (mem v))↔ca v n=true from fun hk n=>by rw [qfZ];exact qqh hk hn n);have HIN:=zh (show v.k=6→inN v=v.ns from fun hk=>by unfold inN;rw [if_pos hk]);have HMM:=zh (show (mem v).length=v.ms.length∧v.ms.length≤2000000000000 from ⟨by unfold mem;rw [List.length_zip];omega,hmm⟩);have HLK0:=zh (show ∀ ns,(bD (ae nm0) ns).length≤30 from fun ns=>Nat.le_trans (qfH _ _) (qbh nm0));obtain ⟨lk',hlk'⟩:∃ x,bD (ae nm0) (inN v)=x:=⟨_,rfl⟩
 have HLKD:=zh hlk'.symm;rw [hlk'] at HLA;clear hlk';generalize v.k=k at *;generalize v.n=n at *;generalize aa v.s=S at *;generalize v.l.length=l at *;obtain ⟨m,hm⟩:∃ m,v.ms.length=m:=⟨_,rfl⟩
 rw [hm] at HLA HGR HIT HMM hmm ⊢;clear hv hz hT hn hl z5 z6 z8 hm;obtain ⟨W0,hW0⟩:∃ W0,W0=w.alloc (.cells #[.int .i64 k,.int .i64 n,.string S,.slice A l c,.slice A2 m d] 25):=⟨_,rfl⟩
 have HB0:=zh (show Below w.heap.size w W0 by rw [hW0];exact aP _ _);have HS0:=zh (show W0.heap.size=w.heap.size+1 by rw [hW0,az]);have HR0:=zh (show W0.heap[w.heap.size]? = some (.cells #[.int .i64 k,.int .i64 n,.string S,.slice A l c,.slice A2 m d] 25 (0,0)) by rw [hW0];exact ag _ _);have HW0:=zh hW0;clear hW0;by_cases hk:k=6
 ·have HBD:=zh (HYS.out hk);have HI6:=zh (HIN.out hk);subst hk;have HLKE:=zh (show lk'=bD (ae nm0) (inN v) from HLKD.out);clear HNO HYS HIN HLKD;go_enter Tryz.func7,Tryz.ntmps7;have q:=HR0.out;rw [HW0.out] at q;obtain ⟨⟨p0,p1,p2,p3,p4⟩, -⟩:=af q;clear q;go_wp2_with fail;rw [←HW0.out];refine (HPR.out _).mono ?_;rintro e w1 ⟨P,rfl,hown,hb⟩;have HP1:=zh (Sm.RdP.of_own hown);have HE1:=zh hb;have HB1:=zB hb HB0;have hr1:=(hb.block w.heap.size (by rw [HS0.out];exact Nat.lt_succ_self _)).trans HR0.out;have HR1:=zh hr1;obtain ⟨PA,pc,rfl, -⟩:=HP1.out;generalize (ae nm0).length=pq at *;clear hown hb p0 p1 p2 p3 p4;obtain ⟨⟨p0,p1,p2,p3,p4⟩, -⟩:=af hr1;clear hr1;go_wp2_with fail;refine (HLA.out _ _ HB1.out HP1.out).mono ?_;rintro e w2 ⟨z,rfl,hown,hb⟩;have HE2:=zh hb;have HB2:=zB hb HB1;have HO2:=zh hown;have HS1:=zh (show w.heap.size+1≤w1.heap.size by have:=HE1.out.size;rw [HS0.out] at this;exact this);have hr2:=(hb.block w.heap.size HS1.out).trans HR1.out;have HR2:=zh hr2;clear hown hb p0 p1 p2 p3 p4;obtain ⟨⟨p0,p1,p2,p3,p4⟩, -⟩:=af hr2;clear hr2;go_wp2_with fail;refine (HGR.out _ HB2.out).mono ?_;rintro e w3 ⟨rfl,hb⟩;have HE3:=zB hb HE2;have HLK:=zh (show lk'.length≤30 by rw [HLKE.out];exact HLK0.out _);have HO3:=zh (bt HO2.out hb);have hr3:=(hb.block w.heap.size (by have:=HE2.out.size;have:=HS1.out;omega)).trans HR2.out;clear hb p0 p1 p2 p3 p4;obtain ⟨⟨p0,p1,p2,p3,p4⟩, -⟩:=af hr3;clear hr3;have HBD2:=zh (show ∀ n,n∈qbp (lk'++cK (qao (dw v bO) cE) (mem v))↔ca v n=true by rw [HLKE.out,HI6.out];exact HBD.out);obtain ⟨lk,hlk⟩:∃ x,lk'=x:=⟨_,rfl⟩
  rw [hlk] at HLK HO3 HBD2;generalize qao (dw v bO) cE=g at *;clear hlk HBD;go_wp2_with fail;clear p0 p1 p2 p3 p4;go_loopw [4,21] (fun s i wr=>∃ q:Nat,i = .int .i64 (q:Int)∧q≤m∧Aside (wr.ownsRow w1.heap.size 9 1 s (lk++cK g ((mem v).take q)).length (aV (lk++cK g ((mem v).take q))))∧Aside (Below w1.heap.size w1 wr)) (fun _ i _=>m-(RowKit.intOf i).toNat)
  case atStart=>exact ⟨0,rfl,by omega,(show World.ownsRow _ _ _ _ _ _ _ by rw [List.take_zero,show cK g []=[] from rfl,List.append_nil];exact HO3.out),(show Below _ _ _ from HE3.out)⟩
  case round=>
   obtain ⟨kk,rfl,hk,hrow,hbel⟩:=hrel;have hown:=hrow.out;have HE:=zh hbel.out;have HB:=zh (HB1.out.trans (hbel.out.mono HB1.out.size));clear hrow hbel;by_cases hlt:kk<m
   ·have t1:decide ((kk:Int)<(m:Int))=true:=zT (by omega);have t2:decide (kk<m)=true:=zT hlt;have k0:(0:Int)≤(kk:Int):=by omega
    have k1:(kk:Int)<(m:Int):=by omega
    have k2:((kk:Int)).toNat=kk:=by omega
    obtain ⟨gb,o,rfl,hgb,nm,x,xA,xc,xB,xd,htk,⟨c0,c1,c2,c3,c4,c5⟩,hcall⟩:=HIT.out kk hlt;have a0:=(HB.out.cell (p:=⟨gb,o+kk*6,none⟩) hgb).trans c0;have a1:=(HB.out.cell (p:=⟨gb,o+kk*6+1,none⟩) hgb).trans c1;have a2:=(HB.out.cell (p:=⟨gb,o+kk*6+2,none⟩) hgb).trans c2;have a3:=(HB.out.cell (p:=⟨gb,o+kk*6+3,none⟩) hgb).trans c3;have a4:=(HB.out.cell (p:=⟨gb,o+kk*6+4,none⟩) hgb).trans c4;have a5:=(HB.out.cell (p:=⟨gb,o+kk*6+5,none⟩) hgb).trans c5;have HTK:=zh (show lk++cK g ((mem v).take (kk+1))=lk++(cK g ((mem v).take kk)++(if qg4 g (nm,x)=true then [nm] else [])) by rw [htk,qmr]);have HCL:=zh hcall;have HLN0:=zh (show (lk++cK g ((mem v).take kk)).length≤2000000000100 by
     have h1:=HLK.out;have h2:=qh7 g ((mem v).take kk);rw [List.length_take] at h2;rw [List.length_append];have:=HMM.out;omega)
    clear htk hcall c0 c1 c2 c3 c4 c5 hgb;obtain ⟨b,hb⟩:∃ b,cR aH nm0 (nm,x)=b:=⟨_,rfl⟩
    have HOF:=zh (show qg4 g (nm,x)=(!b || (decide (nm=bg)&& !g)) by unfold qg4;rw [hb]);rw [hb] at HCL;clear hb;rw [HOF.out] at HTK;obtain ⟨X,hX⟩:∃ X,aa nm=X:=⟨_,rfl⟩
    have HXX:=zh hX;rw [hX] at HCL a0;have HXL:=zh (show X.toList=nm by rw [←hX,ah]);clear hX HOF;generalize x.k=xk at *;generalize x.n=xn at *;generalize aa x.s=xS at *;generalize x.l.length=xl at *;generalize x.ms.length=xm at *;obtain ⟨W4,hW4⟩:∃ W4,W4=wr.alloc (.cells #[.string X,.int .i64 xk,.int .i64 xn,.string xS,.slice xA xl xc,.slice xB xm xd] 44):=⟨_,rfl⟩
    have HE4:=zh (show Below w1.heap.size w1 W4 by rw [hW4];exact HE.out.alloc HE.out.size _);have HO4:=zh (show W4.ownsRow w1.heap.size 9 1 u4 (lk++cK g ((mem v).take kk)).length (aV (lk++cK g ((mem v).take kk))) by rw [hW4];exact hown.alloc _);have HM4:=zh (show W4.heap[wr.heap.size]? = some (.cells #[.string X,.int .i64 xk,.int .i64 xn,.string xS,.slice xA xl xc,.slice xB xm xd] 44 (0,0)) by rw [hW4];exact ag _ _);have HS4:=zh (show wr.heap.size<W4.heap.size by rw [hW4,az];exact Nat.lt_succ_self _);obtain ⟨y0,y1,y2,y3,y4,y5⟩:=cX (ag wr (.cells #[.string X,.int .i64 xk,.int .i64 xn,.string xS,.slice xA xl xc,.slice xB xm xd] 44));have HW4:=zh hW4;clear hW4 hown;have HCC:=zh (HCL.out _ W4 (HB1.out.trans (HE4.out.mono HB1.out.size)) ((HP1.out.below HE4.out (Nat.le_refl _)).more HE4.out.size));clear HCL;cases b with
    | false=>
     have OFF:(!false || (decide (nm=bg)&& !g))=true:=rfl;go_wp2_with fail;rw [←HW4.out];refine HCC.out.mono ?_;rintro e w5 ⟨rfl,hb5⟩;have HE5:=zh (HE4.out.trans (hb5.mono HE4.out.size));have hown5:=bt HO4.out hb5;obtain ⟨y0,y1,y2,y3,y4,y5⟩:=cX ((hb5.block wr.heap.size HS4.out).trans HM4.out);clear hb5 HCC;have HTK2:=zh (show lk++cK g ((mem v).take (kk+1))=(lk++cK g ((mem v).take kk))++[nm] by rw [HTK.out,OFF,if_pos rfl,List.append_assoc]);have HBB:=zh (show w1.heap.size≤w5.heap.size from HE5.out.size);generalize lk++cK g ((mem v).take kk)=ps at *;have HO5:=hown5;clear OFF hown5;go_wp2_with (at_builtin;refine wpList_append_lies _ rfl _ _ 28 rfl w1.heap.size 9 i1 _ 1 16 Tryz.underlying28 hj hy0 hy1 hy2 (by rfl) (by decide) u4 ps.length (aV ps) rfl (HO5.alloc _) ⟨w5.heap.size,0,none⟩ 1 1 [.string X] rfl rfl (bk _ _ _) ?_ ?_ ?_ ?_ ?_ _ rfl ?_;(intro u hu;simp at hu;subst hu;rfl);omega;(have:=HLN0.out;unfold maxLen;omega);(have:=HLN0.out;omega);(have:=HBB.out;rw [az];omega);intro gg cap w6 hown6 hg6 hat hgl)
     have HO6:=zh (show w6.ownsRow w1.heap.size 9 1 (.slice (some ⟨gg,0,none⟩) (ps.length+1) cap) (lk++cK g ((mem v).take (kk+1))).length (aV (lk++cK g ((mem v).take (kk+1)))) by
      rw [HTK2.out,List.length_append,qei];have e:aV [nm]=[.string X]:=by rw [←HXX.out];rfl
      rw [e];exact hown6)
     have HE6:=zh (show Below w1.heap.size w1 w6 from (HE5.out.alloc HBB.out _).grown hg6 (by have:=HBB.out;rw [az];omega) (fun k hk=>(HO5.lt k hk).1));clear hown6 hg6 hat hgl HO5;go_wp2_with fail;go_roundw
     case rel=>exact ⟨kk+1,by go_num,by omega,HO6.out,HE6.out⟩
     case measure=>simp [RowKit.intOf];omega
    | true=>
     by_cases hnm:nm=bg
     ·have n1:(X.toList==[109,101,109,98,101,114,115])=true:=by rw [HXL.out,hnm];rfl
      have n2:X.toList=[109,101,109,98,101,114,115]:=by rw [HXL.out,hnm];rfl
      cases g with
      | true=>
       have OFF:(!true || (decide (nm=bg)&& !true))=false:=by simp
       go_wp2_with fail;rw [←HW4.out];refine HCC.out.mono ?_;rintro e w5 ⟨rfl,hb5⟩;have HE5:=zh (HE4.out.trans (hb5.mono HE4.out.size));have hown5:=bt HO4.out hb5;obtain ⟨y0,y1,y2,y3,y4,y5⟩:=cX ((hb5.block wr.heap.size HS4.out).trans HM4.out);clear hb5 HCC;have HO5:=zh (show w5.ownsRow w1.heap.size 9 1 u4 (lk++cK true ((mem v).take (kk+1))).length (aV (lk++cK true ((mem v).take (kk+1)))) by
        rw [HTK.out,OFF,if_neg Bool.false_ne_true,List.append_nil];exact hown5)
       clear hown5 OFF;go_wp2_with fail;go_roundw
       case rel=>exact ⟨kk+1,by go_num,by omega,HO5.out,HE5.out⟩
       case measure=>simp [RowKit.intOf];omega
      | false=>
       have OFF:(!true || (decide (nm=bg)&& !false))=true:=by rw [zT hnm];rfl
       go_wp2_with fail;rw [←HW4.out];refine HCC.out.mono ?_;rintro e w5 ⟨rfl,hb5⟩;have HE5:=zh (HE4.out.trans (hb5.mono HE4.out.size));have hown5:=bt HO4.out hb5;obtain ⟨y0,y1,y2,y3,y4,y5⟩:=cX ((hb5.block wr.heap.size HS4.out).trans HM4.out);clear hb5 HCC;have HTK2:=zh (show lk++cK false ((mem v).take (kk+1))=(lk++cK false ((mem v).take kk))++[nm] by rw [HTK.out,OFF,if_pos rfl,List.append_assoc]);have HBB:=zh (show w1.heap.size≤w5.heap.size from HE5.out.size);generalize lk++cK false ((mem v).take kk)=ps at *;have HO5:=hown5;clear OFF hown5;go_wp2_with (at_builtin;refine wpList_append_lies _ rfl _ _ 28 rfl w1.heap.size 9 i1 _ 1 16 Tryz.underlying28 hj hy0 hy1 hy2 (by rfl) (by decide) u4 ps.length (aV ps) rfl (HO5.alloc _) ⟨w5.heap.size,0,none⟩ 1 1 [.string X] rfl rfl (bk _ _ _) ?_ ?_ ?_ ?_ ?_ _ rfl ?_;(intro u hu;simp at hu;subst hu;rfl);omega;(have:=HLN0.out;unfold maxLen;omega);(have:=HLN0.out;omega);(have:=HBB.out;rw [az];omega);intro gg cap w6 hown6 hg6 hat hgl)
       have HO6:=zh (show w6.ownsRow w1.heap.size 9 1 (.slice (some ⟨gg,0,none⟩) (ps.length+1) cap) (lk++cK false ((mem v).take (kk+1))).length (aV (lk++cK false ((mem v).take (kk+1)))) by
        rw [HTK2.out,List.length_append,qei];have e:aV [nm]=[.string X]:=by rw [←HXX.out];rfl
        rw [e];exact hown6)
       have HE6:=zh (show Below w1.heap.size w1 w6 from (HE5.out.alloc HBB.out _).grown hg6 (by have:=HBB.out;rw [az];omega) (fun k hk=>(HO5.lt k hk).1));clear hown6 hg6 hat hgl HO5;go_wp2_with fail;go_roundw
       case rel=>exact ⟨kk+1,by go_num,by omega,HO6.out,HE6.out⟩
       case measure=>simp [RowKit.intOf];omega
     ·have n1:(X.toList==[109,101,109,98,101,114,115])=false:=by rw [HXL.out];exact beq_eq_false_iff_ne.2 hnm
      have n2:¬X.toList=[109,101,109,98,101,114,115]:=by rw [HXL.out];exact hnm
      have OFF:(!true || (decide (nm=bg)&& !g))=false:=by rw [zF hnm];rfl
      go_wp2_with fail;rw [←HW4.out];refine HCC.out.mono ?_;rintro e w5 ⟨rfl,hb5⟩;have HE5:=zh (HE4.out.trans (hb5.mono HE4.out.size));have hown5:=bt HO4.out hb5;obtain ⟨y0,y1,y2,y3,y4,y5⟩:=cX ((hb5.block wr.heap.size HS4.out).trans HM4.out);clear hb5 HCC;have HO5:=zh (show w5.ownsRow w1.heap.size 9 1 u4 (lk++cK g ((mem v).take (kk+1))).length (aV (lk++cK g ((mem v).take (kk+1)))) by
       rw [HTK.out,OFF,if_neg Bool.false_ne_true,List.append_nil];exact hown5)
      clear hown5 OFF;go_wp2_with fail;go_roundw
      case rel=>exact ⟨kk+1,by go_num,by omega,HO5.out,HE5.out⟩
      case measure=>simp [RowKit.intOf];omega
   ·have t1:decide ((kk:Int)<(m:Int))=false:=zF (by omega);have t2:decide (kk<m)=false:=zF hlt;have HTE:=zh (show (mem v).take kk=mem v from List.take_of_length_le (by have:=HMM.out;omega));rw [HTE.out] at hown;have HLN:=zh (show (lk++cK g (mem v)).length≤2000000000100 by
     have h1:=HLK.out;have h2:=qh7 g (mem v);rw [List.length_append];have:=HMM.out;omega)
    generalize lk++cK g (mem v)=zs at *;have HSRT:=zh (qjH zs);rcases Nat.eq_zero_or_pos zs.length with h0 | h0
    ·obtain rfl:zs=[]:=List.eq_nil_of_length_eq_zero h0;have HO:=zh hown;obtain ⟨Z,zc,rfl, -⟩:=Rd.of_own hown;rw [show (aV []).length=0 from rfl] at HO ⊢;clear hown h0;go_wp2_with fail;refine (qgE _ _ _).mono ?_;rintro e w5 ⟨rfl,rfl⟩;go_wp2_with fail;refine (qgZ _ _ _).mono ?_;rintro e w6 ⟨rfl,rfl⟩;go_wp2_with fail;go_ret;exact ⟨_,[],rfl,qcq HO.out HB1.out.size,List.Pairwise.nil,fun n=>(qfZ [] n).symm.trans (HBD2.out n),HB.out⟩
    ·obtain ⟨gg,cap,rfl,hgg,hgl⟩:=hown.form h0;have hms:(zs.mergeSort fun x y=>decide (x≤y)).length=zs.length:=(List.mergeSort_perm zs _).length_eq;have HSO:=zh (qli zs wr HE.out.size hown (by have:=HLN.out;omega));have HCO:=zh (fun (u:World) (hu:w1.heap.size≤u.heap.size) (h:u.ownsRow w1.heap.size 9 1 (.slice (some ⟨gg,0,none⟩) zs.length cap) zs.length (aV (zs.mergeSort fun x y=>decide (x≤y))))=>(show Calls Tryz.prog 22 #[.slice (some ⟨gg,0,none⟩) zs.length cap] u (fun e w'=>e = .returned (.slice (some ⟨gg,0,none⟩) (qbp zs).length cap)∧w'.ownsRow w1.heap.size 9 1 (.slice (some ⟨gg,0,none⟩) (qbp zs).length cap) (qbp zs).length (aV (qbp zs))∧Below w1.heap.size u w') from by
      rw [←hms] at h ⊢;exact qmE (zs.mergeSort fun x y=>decide (x≤y)) u hu h (by rw [hms];have:=HLN.out;omega)))
     generalize (zs.mergeSort fun x y=>decide (x≤y))=zz at *;generalize qbp zs=ns at *;generalize zs.length=zl at *;clear hown hgg hgl h0 hms;go_wp2_with fail;refine HSO.out.mono ?_;rintro e w5 ⟨rfl,ho5,hb5⟩;have HE5:=zh (HE.out.trans hb5);have HC5:=zh (HCO.out w5 HE5.out.size ho5);clear ho5 hb5;go_wp2_with fail;refine HC5.out.mono ?_;rintro e w6 ⟨rfl,ho6,hb6⟩;have HO6:=zh (qcq ho6 HB1.out.size);have HB6:=zh (HB1.out.trans ((HE5.out.trans hb6).mono HB1.out.size));clear ho6 hb6;go_wp2_with fail;go_ret;exact ⟨_,ns,rfl,HO6.out,HSRT.out,HBD2.out,HB6.out⟩
 ·have HBD:=zh (HNO.out hk);have t1:(k != 6)=true:=bne_iff_ne.2 hk;have t2:(k==6)=false:=beq_eq_false_iff_ne.2 hk;clear HNO HYS HIN;go_enter Tryz.func7,Tryz.ntmps7;have q:=HR0.out;rw [HW0.out] at q;obtain ⟨⟨p0,p1,p2,p3,p4⟩, -⟩:=af q;clear q;go_wp2_with fail;rw [←HW0.out];go_ret;obtain ⟨x,hx1,hx2,hx3⟩:=qmm (w:=W0) (E:=9) (xs:=[.string ⟨#[64,116,121,112,101]⟩]) (cs:= #[.string ⟨#[64,116,121,112,101]⟩]) (k:=1) rfl rfl (by decide);refine ⟨x,[cD],?_,qcq hx2 HB0.out.size,List.pairwise_singleton _ _,HBD.out,HB0.out.trans (hx3.mono HB0.out.size)⟩;rw [←hx1,HS0.out];rfl
end Cd
namespace Cd
open Go.Proofs Go.RowKit Go.Lib Utf Sc Re Tr Po Pa
def qid:M6:=⟨bh,1,0,⟨#[]⟩,none,0,0,none,0,0⟩
def qft:V:= .mk 1 0 [] [] [] []
theorem qsZ (w:World):RdA w 0 w.heap.size qft (dv qid):=by
 rw [qft,RdA];exact ⟨none,0,none,0,rfl,rfl,fun h=>by simp at h,fun h=>by simp at h⟩
theorem qbG {v:V} {T:List (M6×V)} (h1:tM T=v.ms) (h2:tN T=v.ns):(mpT (T++[(qid,qft)])).k=6∧mem (mpT (T++[(qid,qft)]))=mem v++[(bh,qft)]∧(mpT (T++[(qid,qft)])).ns=v.ns++[bh]:=by
 refine ⟨rfl,?_,?_⟩
 ·rw [qg3,qib h1 h2,List.map_append];rfl
 ·rw [←h2];show tN (T++[(qid,qft)])=tN T++[bh];unfold tN;rw [List.map_append];rfl
theorem qo1 {T:List (M6×V)} (h:bh∉tN T):qhJ (T.map Prod.fst) qid=(T++[(qid,qft)]).map Prod.fst:=by
 unfold qhJ;rw [List.map_map,if_neg (by exact h),List.map_append];rfl
def quu (nm:List UInt8) (v:V) (w:World) (e:Ending) (w':World):Prop:=
 (∃ (A:Option Addr) (n c:Nat) (x:V),e = .returned (.agg #[.int .i64 6,.int .i64 0,.string ⟨#[]⟩,.slice none 0 0,.slice A n c])∧RdA w' 0 w'.heap.size x [.int .i64 6,.int .i64 0,.string ⟨#[]⟩,.slice none 0 0,.slice A n c]∧(szA 4611686018427387904 x∧x.ms.length≤2000000000000)∧
  ((∀ n,ca v n=false)→(∀ p,Sm.bC (Sm.ae Sm.nm0) nm=some p→p.mu=true→∀ n,ca x n=true↔n=nm)∧((∀ p,Sm.bC (Sm.ae Sm.nm0) nm=some p→p.mu=false)→nm≠bO→∀ n,ca x n=false)))∧Below w.heap.size w w'
def quh (w:World) (e:Ending) (w':World):Prop:=
 (∃ (A:Option Addr) (n c:Nat) (x:V),e = .returned (.agg #[.int .i64 6,.int .i64 0,.string ⟨#[]⟩,.slice none 0 0,.slice A n c])∧RdA w' 0 w'.heap.size x [.int .i64 6,.int .i64 0,.string ⟨#[]⟩,.slice none 0 0,.slice A n c]∧(szA 4611686018427387904 x∧x.ms.length≤2000000000000)∧
  ∀ n,ca x n=true↔n=bh)∧Below w.heap.size w w'
theorem qoS (nm:List UInt8) (v:V) (cs:List Value) (w:World) (hk:v.k=6) (hv:RdA w 0 w.heap.size v cs) (hz:szA 140737488351232 v) :
  Calls Tryz.prog 9 #[.agg cs.toArray,.string (aa nm)] w (quu nm v w):=by
 obtain ⟨A,c,A2,c2,T,rfl,t1,t2,t3,t4,t5,t6⟩:=qfy hv;have hT:T.length*96≤140737488351232:=by rw [t1];exact ((b9 _ v).1 hz).2.2.2.2.1
 have h:=qim (T.map Prod.fst) v.n (aa v.s) A v.l.length c A2 c2 nm w t4 (Nat.lt_of_le_of_lt (Nat.le_of_eq (List.length_map ..)) (show T.length<1466015503701 by omega));rw [List.length_map,qr9] at h;rw [hk];refine h.mono fun e w' hg=>?_;obtain ⟨⟨A',c',rfl,hr⟩,hb⟩:=qhL hg fun t ht=>t5 t (List.mem_filter.1 ht).1;have hsz:=qkR hz t2 t3;have hle:(T.filter fun t=>decide (t.1.nm≠nm)).length≤T.length:=List.length_filter_le _ _;refine ⟨⟨A',_,c',_,rfl,hr,⟨Em.qb1 (by decide) _ (qpf (B:=140737488351232) (fun t ht=>hsz t (List.mem_filter.1 ht).1) (by omega)),by show (tM _).length≤_;unfold tM;rw [List.length_map];omega⟩,fun hgood=>?_⟩,hb⟩;obtain ⟨f1,f2,f3⟩:=qiO t2 t3 nm;exact ⟨fun p hp hm=>qjg hgood hp hm f1 f2 f3,fun hno hkd=>qiA hgood hno hkd f1 f2 f3⟩
theorem qnQ (v:V) (cs:List Value) (w:World) (hgood:∀ n,ca v n=false) (hv:RdA w 0 w.heap.size v cs) (hz:szA 140737488351232 v) :
  Calls Tryz.prog 11 #[.agg cs.toArray,.string (aa bh),.agg #[.int .i64 1,.int .i64 0,.string ⟨#[]⟩,.slice none 0 0,.slice none 0 0]] w (quh w):=by
 obtain ⟨A,c,A2,c2,T,rfl,t1,t2,t3,t4,t5,t6⟩:=qfy hv;have hT:T.length*96≤140737488351232:=by rw [t1];exact ((b9 _ v).1 hz).2.2.2.2.1
 have hnc:=qnB t6 hgood;have h:=qnv (T.map Prod.fst) v.n (aa v.s) A v.l.length c A2 c2 qid w t4 (Nat.lt_of_le_of_lt (Nat.le_of_eq (List.length_map ..)) (show T.length<1466015503701 by omega));rw [List.length_map,qo1 (by rw [t3];exact hnc)] at h;rw [(ed hgood).1];refine h.mono fun e w' hg=>?_;obtain ⟨⟨A',c',rfl,hr⟩,hb⟩:=qhL hg fun t ht=>by
  rcases List.mem_append.1 ht with ht | ht
  ·exact t5 t ht
  ·rw [List.mem_singleton.1 ht];exact qsZ w
 have hsz:=qkR hz t2 t3;refine ⟨⟨A',_,c',_,rfl,hr,⟨qpf (fun t ht=>?_) (by rw [List.length_append];simp;omega),by show (tM _).length≤_;unfold tM;rw [List.length_map,List.length_append];simp;omega⟩,qiK t6 hgood (qbG t2 t3).1 (qbG t2 t3).2.1 (qbG t2 t3).2.2⟩,hb⟩;rcases List.mem_append.1 ht with ht | ht
 ·exact ⟨Em.qb1 (by decide) _ (hsz t ht).1,Nat.le_trans (hsz t ht).2 (by decide)⟩
 ·rw [List.mem_singleton.1 ht];exact ⟨by show szA _ qft;rw [qft,szA];exact ⟨by decide,by decide,Nat.zero_le _,Nat.zero_le _,Nat.zero_le _,(fun _ h=>by cases h),(by rw [cz];trivial),(by rw [cz];trivial)⟩,by show bh.length≤_;decide⟩
end Cd
namespace Cd
open Go.Proofs Go.RowKit Go.Lib Utf Sc Re Tr
open Sm (nm0)
open Em (szU wfV cA chk qac qaF)
open Po (aV aL dz)
theorem qn3:∀ h,LnC h
 | 0=>fun _ _ _ _ _ h=>absurd h (Nat.not_lt_zero _)
 | h+1=>qoq (qn3 h)
theorem qgT (v:V):1≤szU v:=by obtain ⟨k,n,s,l,ns,ms⟩:=v;rw [szU];omega
theorem qig:∀ l:List V,l.length≤Em.cC l
 | []=>by simp
 | a::r=>by
  have:=qig r;have:=qgT a;rw [Em.cC,List.length_cons];omega
theorem qoT (v:V):v.ms.length≤szU v:=by
 obtain ⟨k,n,s,l,ns,ms⟩:=v;rw [szU];have:=qig ms;show ms.length≤_;omega
theorem qh4 (v:V) (cs:List Value) (w:World) (hT:St.Tab w) (hv:RdA w 0 w.heap.size v cs) (hl:cA v) (hc:chk v=0) (hw:wfV v) (hu:szU v≤10000000) :
  Calls Tryz.prog 14 #[.agg cs.toArray] w (qqA v w):=by
 have hz:szA 140737488355328 v:=qac _ v hw (by omega);have hz2:szA 4611686018427387904 v:=qac _ v hw (by omega);have ho:oV v:=qcy _ (qaF hc).2.2;have HSO:=zh (fun (u:World) (hu:Below w.heap.size w u)=>qo9 v cs u ho hz (hv.below hu (Nat.le_refl _) hu.size));have hmv:=qoT v;have HCK:=zh (fun (u:World) (hu:Below w.heap.size w u)=>bL v cs u (hT.below hu) (hv.below hu (Nat.le_refl _) hu.size) hz2 (by omega));have HZA:=zh (show ∀ a,Srt a v→szA 140737488355328 a from fun a ha=>by
  have:=qhy a v ha hl;exact qac _ a (this.2.2.2.1 hw) (by rw [this.2.2.1];omega))
 have HGD:=zh (qhr v);have HG0:=zh (show ∀ v1,qcb v=true→qaL v v1=ax nm0 v1 from fun v1 h=>by unfold qaL;rw [if_pos h];rfl);have HG1:=zh (show ∀ v1,qcb v=false→qaL v v1=v1 from fun v1 h=>by unfold qaL;rw [if_neg (by rw [h];simp)]);obtain ⟨A,c,A2,d,rfl, -⟩:=hv.cells;clear hz hz2 ho hmv hv hT hl hc hw hu;generalize v.k=k at *;generalize v.n=n at *;generalize aa v.s=S at *;generalize v.l.length=l at *;generalize v.ms.length=m at *;obtain ⟨Wa,hWa⟩:∃ Wa,Wa=w.alloc (.cells #[.int .i64 k,.int .i64 n,.string S,.slice A l c,.slice A2 m d] 25):=⟨_,rfl⟩
 obtain ⟨W0,hW0⟩:∃ W0,W0=Wa.alloc (.cells #[.int .i64 0,.int .i64 0,.string ⟨#[]⟩,.slice none 0 0,.slice none 0 0] 25):=⟨_,rfl⟩
 have sa:Wa.heap.size=w.heap.size+1:=by rw [hWa,az]
 have HS0:=zh (show W0.heap.size=w.heap.size+2 by rw [hW0,az,sa]);have ba:Below w.heap.size w Wa:=by rw [hWa];exact (Below.refl _ _).alloc (Nat.le_refl _) _
 have b0:Below Wa.heap.size Wa W0:=by rw [hW0];exact (Below.refl _ _).alloc (Nat.le_refl _) _
 have HB0:=zh (show Below w.heap.size w W0 from ba.trans (b0.mono ba.size));have HV0:=zh (show W0.heap[w.heap.size]? = some (.cells #[.int .i64 k,.int .i64 n,.string S,.slice A l c,.slice A2 m d] 25 (0,0)) from (b0.block _ (by omega)).trans (by rw [hWa];exact ag _ _));have HZ0:=zh (show W0.heap[w.heap.size+1]? = some (.cells #[.int .i64 0,.int .i64 0,.string ⟨#[]⟩,.slice none 0 0,.slice none 0 0] 25 (0,0)) by rw [hW0,←sa];exact ag _ _);have HW0:=zh (show W0=(w.alloc (.cells #[.int .i64 k,.int .i64 n,.string S,.slice A l c,.slice A2 m d] 25)).alloc (.cells #[.int .i64 0,.int .i64 0,.string ⟨#[]⟩,.slice none 0 0,.slice none 0 0] 25) by rw [hW0,hWa]);clear hWa hW0 sa ba b0;go_enter Tryz.func14,Tryz.ntmps14;have q:=HV0.out;rw [HW0.out] at q;obtain ⟨⟨v0,v1,v2,v3,v4⟩, -⟩:=af q;clear q;go_wp2_with fail;rw [←HW0.out];refine (HSO.out _ HB0.out).mono ?_;rintro e w1 ⟨⟨a,ys,F,rfl,hs,hr,hn,hF⟩,hb1⟩;obtain ⟨yA,yc,yB,yd,_,_,eys, -⟩:=hr.cells;have HYS:=zh eys;have HB1:=zh (HB0.out.trans (hb1.mono HB0.out.size));have HS1:=zh (show w.heap.size+2≤w1.heap.size by have:=hb1.size;rw [HS0.out] at this;exact this);have hv1:=(hb1.block w.heap.size (by rw [HS0.out];omega)).trans HV0.out;have HV1:=zh hv1;have HZ1:=zh ((hb1.block (w.heap.size+1) (by rw [HS0.out];omega)).trans HZ0.out);have HR:=zh hr;have HN:=zh hn;have HF:=zh (show ∀ x∈F,w.heap.size+2≤x∧x<w1.heap.size from fun x hx=>by have:=hF x hx;have:=HS0.out;omega);have HSR:=zh hs;rw [eys];obtain ⟨yk,hyk⟩:∃ z,a.k=z:=⟨_,rfl⟩
 obtain ⟨yn,hyn⟩:∃ z,a.n=z:=⟨_,rfl⟩
 obtain ⟨yS,hyS⟩:∃ z,aa a.s=z:=⟨_,rfl⟩
 obtain ⟨yl,hyl⟩:∃ z,a.l.length=z:=⟨_,rfl⟩
 obtain ⟨ym,hym⟩:∃ z,a.ms.length=z:=⟨_,rfl⟩
 rw [hyk,hyn,hyS,hyl,hym] at HYS ⊢;clear hyk hyn hyS hyl hym eys hs hr hn hF hb1 v0 v1 v2 v3 v4;obtain ⟨W1,hW1⟩:∃ W1,W1=w1.alloc (.cells #[.int .i64 yk,.int .i64 yn,.string yS,.slice yA yl yc,.slice yB ym yd] 25):=⟨_,rfl⟩
 have HE1:=zh (show Below w1.heap.size w1 W1 by rw [hW1];exact (Below.refl _ _).alloc (Nat.le_refl _) _);have HT1:=zh (show W1.heap.size=w1.heap.size+1 by rw [hW1,az]);have HBW:=zh (HB1.out.trans (HE1.out.mono HB1.out.size));have HY1:=zh (show W1.heap[w1.heap.size]? = some (.cells #[.int .i64 yk,.int .i64 yn,.string yS,.slice yA yl yc,.slice yB ym yd] 25 (0,0)) by rw [hW1];exact ag _ _);have hv2:=(HE1.out.block w.heap.size (by have:=HS1.out;omega)).trans hv1;rw [hW1] at hv2;obtain ⟨⟨v0,v1,v2,v3,v4⟩, -⟩:=af hv2;have HW1:=zh hW1;clear hW1 hv1 hv2;go_wp2_with fail;rw [←HW1.out];refine (HCK.out _ HBW.out).mono ?_;rintro e w2 ⟨x,ps,rfl,hown, -,hmem,hb2⟩;obtain ⟨Z,zc,rfl, -⟩:=Rd.of_own hown;rw [aL];have HMM:=zh hmem;have HB2:=zh (HBW.out.trans (hb2.mono HBW.out.size));have HS2:=zh (show w1.heap.size+1≤w2.heap.size by have:=hb2.size;rw [HT1.out] at this;exact this);have hfar:∀ b,b<w1.heap.size→w2.heap[b]? = w1.heap[b]?:=fun b hb=>(hb2.block b (by rw [HT1.out];omega)).trans (HE1.out.block b hb);have HR2:=zh (RdF.keep (w':=w2) _ _ _ (fun b hb=>hfar b (HF.out b hb).2) HR.out);have hy2:=(hb2.block w1.heap.size (by rw [HT1.out];omega)).trans HY1.out;have hz2:=(hfar (w.heap.size+1) (by have:=HS1.out;omega)).trans HZ1.out;have HY2:=zh hy2;have HZ2:=zh hz2;clear hown hmem hb2 hfar v0 v1 v2 v3 v4;obtain ⟨⟨u0,u1,u2,u3,u4⟩, -⟩:=af hy2;obtain ⟨⟨z0,z1,z2,z3,z4⟩,⟨f0,f1,f2,f3,f4⟩⟩:=af hz2;clear hy2 hz2;by_cases hg:qcb v=true
 ·have hps:ps=[]:=List.eq_nil_iff_forall_not_mem.2 fun q hq=>by
   have h1:=(HGD.out.1 hg) q;rw [(HMM.out q).1 hq] at h1;cases h1
  subst hps;have HLN:=zh (show Calls Tryz.prog 29 #[.string ⟨#[67,97,114,100]⟩,.agg #[.int .i64 yk,.int .i64 yn,.string yS,.slice yA yl yc,.slice yB ym yd]] w2 (qdG (qaL v a) F w2) by
   have:=qn3 (ht a+1) nm0 a ys F w2 (Nat.lt_succ_self _) HR2.out HN.out (fun x hx=>by have:=(HF.out x hx).2;have:=HS2.out;omega) (HZA.out a HSR.out);rw [HYS.out] at this;rw [HG0.out a hg];exact this)
  rw [show ([]:List (List UInt8)).length=0 from rfl];obtain ⟨r,hr⟩:∃ r,qaL v a=r:=⟨_,rfl⟩
  have HRR:=zh hr;rw [hr] at HLN;clear hr;go_wp2_with fail;refine HLN.out.mono ?_;rintro e w3 ⟨rs,G,rfl,hq,hGn,hG,hc⟩;obtain ⟨rA,rc,rB,rd,_,_,ers, -⟩:=hq.cells;rw [ers];rw [ers] at hq;have hz3:=(hc.block (w.heap.size+1) (by have:=HS2.out;have:=HS1.out;omega) (fun hx=>by have:=(HF.out _ hx).1;omega)).trans HZ2.out;have HZ3:=zh hz3;have hGs:∀ x∈G,w.heap.size+2≤x∧x<w3.heap.size:=fun x hx=>⟨by
   rcases (hG x hx).1 with h1 | h1
   ·exact (HF.out x h1).1
   ·have:=HS2.out;have:=HS1.out;omega,(hG x hx).2⟩
  have hb3:Below w.heap.size w w3:=HB2.out.trans (hc.below HB2.out.size (fun x hx=>by have:=(HF.out x hx).1;omega));have HRT:=zh (show ∀ q0 q1 q2 q3 q4,RdF (st5 w3 (w.heap.size+1) q0 q1 q2 q3 q4) r [.int .i64 r.k,.int .i64 r.n,.string (aa r.s),.slice rA r.l.length rc,.slice rB r.ms.length rd] G∧G.Nodup∧(∀ x∈G,w.heap.size≤x∧x<(st5 w3 (w.heap.size+1) q0 q1 q2 q3 q4).heap.size)∧Below w.heap.size w (st5 w3 (w.heap.size+1) q0 q1 q2 q3 q4) from fun q0 q1 q2 q3 q4=>
   ⟨RdF.keep _ _ _ (fun x hx=>bE (by have:=(hGs x hx).1;omega) _ _ _ _ _) hq,hGn,fun x hx=>⟨by have:=(hGs x hx).1;omega,by rw [cN];exact (hGs x hx).2⟩,bQ hb3 (by omega) _ _ _ _ _⟩)
  generalize r.k=rk at *;generalize r.n=rn at *;generalize aa r.s=rS at *;generalize r.l.length=rl at *;generalize r.ms.length=rm at *;clear hq hGn hG hc hGs hb3 ers u0 u1 u2 u3 u4 z0 z1 z2 z3 z4 f0 f1 f2 f3 f4;obtain ⟨⟨z0,z1,z2,z3,z4⟩,⟨f0,f1,f2,f3,f4⟩⟩:=af hz3;clear hz3;go_wp2_with fail;refine bodyPost_ret (qck rfl rfl (bV HZ3.out (.int .i64 rk) (.int .i64 rn) (.string rS) (.slice rA rl rc) (.slice rB rm rd))) rfl ?_;have hf:=HRT.out (.int .i64 rk) (.int .i64 rn) (.string rS) (.slice rA rl rc) (.slice rB rm rd);exact ⟨a,_,G,rfl,HSR.out,by rw [HRR.out];exact hf.1,hf.2.1,hf.2.2.1,hf.2.2.2⟩
 ·have hg:qcb v=false:=by cases h:qcb v with | true=>exact absurd h hg | false=>rfl
  have hps:0<ps.length:=by
   rcases Nat.eq_zero_or_pos ps.length with h0 | h0
   ·have h1:ps=[]:=List.eq_nil_of_length_eq_zero h0;have:qcb v=true:=HGD.out.2 fun q=>by
     cases hb:ca v q with
     | false=>rfl
     | true=>have:=(HMM.out q).2 hb;rw [h1] at this;cases this
    rw [this] at hg;cases hg
   ·exact h0
  have t1:decide ((0:Int)<(ps.length:Int))=true:=zT (by omega);have t2:decide (0<ps.length)=true:=zT hps;have HRT:=zh (show ∀ q0 q1 q2 q3 q4,RdF (st5 w2 (w.heap.size+1) q0 q1 q2 q3 q4) (qaL v a) ys F∧F.Nodup∧(∀ x∈F,w.heap.size≤x∧x<(st5 w2 (w.heap.size+1) q0 q1 q2 q3 q4).heap.size)∧Below w.heap.size w (st5 w2 (w.heap.size+1) q0 q1 q2 q3 q4) from fun q0 q1 q2 q3 q4=>by
   rw [HG1.out a hg];exact ⟨RdF.keep _ _ _ (fun x hx=>bE (by have:=(HF.out x hx).1;omega) _ _ _ _ _) HR2.out,HN.out,fun x hx=>⟨by have:=(HF.out x hx).1;omega,by rw [cN];have:=(HF.out x hx).2;have:=HS2.out;omega⟩,bQ HB2.out (by omega) _ _ _ _ _⟩)
  rw [HYS.out] at HRT;generalize ps.length=pl at *;clear hg;go_wp2_with fail;refine bodyPost_ret (qck rfl rfl (bV HZ2.out (.int .i64 yk) (.int .i64 yn) (.string yS) (.slice yA yl yc) (.slice yB ym yd))) rfl ?_;have hf:=HRT.out (.int .i64 yk) (.int .i64 yn) (.string yS) (.slice yA yl yc) (.slice yB ym yd);exact ⟨a,_,F,rfl,HSR.out,hf.1,hf.2.1,hf.2.2.1,hf.2.2.2⟩
end Cd
end Go.Proofs.YtnecfkhbncepnaaGreatDoor
set_option linter.unusedSimpArgs false
namespace Go.Proofs.YtnecfkhbncepnaaGreatDoor
namespace Cd
open Go.Proofs Go.RowKit Utf Sc Re Tr Po
open Em (cA szU wfV qac)
theorem qh0 (w:World) (hT:St.Tab w):Calls Tryz.prog 5 #[] w fun e w'=>e = .returned (.bool true)∧Below w.heap.size w w':=by
 have HBw:=zh (Below.refl w.heap.size w);have HTT:=zh hT;clear hT;go_enter Tryz.func5,Tryz.ntmps5;go_wp2_with fail;refine (qeo ⟨#[123,34,64,116,121,112,101,34,58,34,67,97,114,100,34,44,34,118,101,114,115,105,111,110,34,58,34,49,46,48,34,44,34,117,105,100,34,58,34,117,34,44,34,107,105,110,100,34,58,34,105,110,100,105,118,105,100,117,97,108,34,44,34,97,46,98,58,99,34,58,123,34,122,34,58,49,44,34,121,34,58,50,125,125]⟩ _ (by decide) qsg).mono ?_;rintro e w1 ⟨vA,vc,vB,vd,rfl,hv,hb⟩;have HBw1:=zB hb HBw;have hv2:=RdA.of_RdV _ _ hv;clear hb;have Fw1_v:=zh (Below.refl w1.heap.size w1);obtain ⟨v,hvv⟩:∃ x:V,awV=x:=⟨_,rfl⟩
 have HEv:=zh hvv;rw [hvv] at hv2 ⊢;have Hv:=zh hv2.wide;clear hv hv2 hvv;generalize v.k=vk at *;generalize v.n=vn at *;generalize aa v.s=vS at *;generalize v.l.length=vl at *;generalize v.ms.length=vm at *;obtain ⟨W1,hW1⟩:∃ W1,W1=w1.alloc (.cells #[.int .i64 vk,.int .i64 vn,.string vS,.slice vA vl vc,.slice vB vm vd] 25):=⟨_,rfl⟩
 have hb:Below w1.heap.size w1 W1:=by rw [hW1];exact (Below.refl _ _).alloc (Nat.le_refl _) _
 have FW1_v:=zB hb Fw1_v;have HBW1:=zB hb HBw1;have RW1_0:=zh (show W1.heap[w1.heap.size]? = some (.cells #[.int .i64 vk,.int .i64 vn,.string vS,.slice vA vl vc,.slice vB vm vd] 25 (0,0)) by rw [hW1];exact ag _ _);have LW1_0:=zh (show w1.heap.size<W1.heap.size by rw [hW1,az];exact Nat.lt_succ_self _);have HW1:=zh hW1;clear hW1 hb;have q0:=RW1_0.out;rw [HW1.out] at q0;obtain ⟨⟨p0_0,p0_1,p0_2,p0_3,p0_4⟩, -⟩:=af q0;clear q0;go_wp2_with fail;rw [←HW1.out];clear p0_0 p0_1 p0_2 p0_3 p0_4;refine (qeo ⟨#[123,34,117,105,100,34,58,34,34,44,34,120,34,58,49,125]⟩ _ (by decide) qs5).mono ?_;rintro e w2 ⟨uA,uc,uB,ud,rfl,hu,hb⟩;have Rw2_0:=zR hb LW1_0 RW1_0;have Lw2_0:=zL hb LW1_0;have Fw2_v:=zB hb FW1_v;have HBw2:=zB hb HBW1;have hu2:=RdA.of_RdV _ _ hu;clear hb;have Fw2_u:=zh (Below.refl w2.heap.size w2);obtain ⟨u,huv⟩:∃ x:V,awW=x:=⟨_,rfl⟩
 have HEu:=zh huv;rw [huv] at hu2 ⊢;have Hu:=zh hu2.wide;clear hu hu2 huv;generalize u.k=uk at *;generalize u.n=un at *;generalize aa u.s=uS at *;generalize u.l.length=ul at *;generalize u.ms.length=um at *;obtain ⟨W2,hW2⟩:∃ W2,W2=w2.alloc (.cells #[.int .i64 uk,.int .i64 un,.string uS,.slice uA ul uc,.slice uB um ud] 25):=⟨_,rfl⟩
 have hb:Below w2.heap.size w2 W2:=by rw [hW2];exact (Below.refl _ _).alloc (Nat.le_refl _) _
 have RW2_0:=zR hb Lw2_0 Rw2_0;have LW2_0:=zL hb Lw2_0;have FW2_v:=zB hb Fw2_v;have FW2_u:=zB hb Fw2_u;have HBW2:=zB hb HBw2;have RW2_1:=zh (show W2.heap[w2.heap.size]? = some (.cells #[.int .i64 uk,.int .i64 un,.string uS,.slice uA ul uc,.slice uB um ud] 25 (0,0)) by rw [hW2];exact ag _ _);have LW2_1:=zh (show w2.heap.size<W2.heap.size by rw [hW2,az];exact Nat.lt_succ_self _);have HW2:=zh hW2;clear hW2 hb;have q0:=RW2_0.out;rw [HW2.out] at q0;obtain ⟨⟨p0_0,p0_1,p0_2,p0_3,p0_4⟩, -⟩:=af q0;clear q0;have q1:=RW2_1.out;rw [HW2.out] at q1;obtain ⟨⟨p1_0,p1_1,p1_2,p1_3,p1_4⟩, -⟩:=af q1;clear q1;go_wp2_with fail;rw [←HW2.out];clear p0_0 p0_1 p0_2 p0_3 p0_4 p1_0 p1_1 p1_2 p1_3 p1_4;refine (qh4 v [.int .i64 vk,.int .i64 vn,.string vS,.slice vA vl vc,.slice vB vm vd] _ (HTT.out.below HBW2.out) (Hv.out.below FW2_v.out (Nat.le_refl _) FW2_v.out.size) (by rw [←HEv.out];exact (cY _ (.inl rfl)).2.2) (by rw [←HEv.out];exact qgp) (by rw [←HEv.out];exact (cY _ (.inl rfl)).1) (by rw [←HEv.out];have:=(cY _ (.inl rfl)).2.1;omega)).mono ?_;rintro e w3 ⟨v1,xs,F,rfl,hs,hx, -,hF,hb⟩;have Rw3_0:=zR hb LW2_0 RW2_0;have Lw3_0:=zL hb LW2_0;have Rw3_1:=zR hb LW2_1 RW2_1;have Lw3_1:=zL hb LW2_1;have Fw3_v:=zB hb FW2_v;have Fw3_u:=zB hb FW2_u;have HBw3:=zB hb HBW2;rw [←HEv.out] at hs;obtain ⟨x,hxe⟩:∃ x,qaL v v1=x:=⟨_,rfl⟩
 rw [hxe] at hx;rw [←HEv.out,qs7 hs] at hxe;have HEx:=zh hxe.symm;have hxA:=RdF.toA (lo:=0) (hi:=w3.heap.size) _ _ _ (fun k hk=>⟨Nat.zero_le _,(hF k hk).2⟩) hx;obtain ⟨xA,xc,xB,xd,ex, -⟩:=hxA.cells;subst ex;have HTX:=zh (show Calls Tryz.prog 13 #[.agg #[.int .i64 x.k,.int .i64 x.n,.string (aa x.s),.slice xA x.l.length xc,.slice xB x.ms.length xd]] w3 (fun e w'=>e = .returned (.tuple #[.string ⟨#[123,34,97,46,98,58,99,34,58,123,34,121,34,58,50,44,34,122,34,58,49,125,44,34,117,105,100,34,58,34,117,34,44,34,118,101,114,115,105,111,110,34,58,34,49,46,48,34,125]⟩,.int .i64 0])∧Below w3.heap.size w3 w') from by
  have hw:=cY x (by rw [HEx.out];exact .inr (.inr rfl));refine (Em.qoE x _ 0 w3 hw.2.2 (by have:=hw.2.1;omega) (qac _ x hw.1 (by have:=hw.2.1;omega)) hxA).mono ?_;rintro e w' ⟨h1,h2⟩;refine ⟨?_,h2⟩;rw [HEx.out,qrX,qpj] at h1;exact h1)
 clear hx hF hs hxA hxe;generalize x.k=xk at *;generalize x.n=xn at *;generalize aa x.s=xS at *;generalize x.l.length=xl at *;generalize x.ms.length=xm at *;clear hb;obtain ⟨⟨p0_0,p0_1,p0_2,p0_3,p0_4⟩, -⟩:=af Rw3_0.out;obtain ⟨⟨p1_0,p1_1,p1_2,p1_3,p1_4⟩, -⟩:=af Rw3_1.out;go_wp2_with fail;clear p0_0 p0_1 p0_2 p0_3 p0_4 p1_0 p1_1 p1_2 p1_3 p1_4;refine (HTX.out).mono ?_;rintro e w4 ⟨rfl,hb⟩;have Rw4_0:=zR hb Lw3_0 Rw3_0;have Lw4_0:=zL hb Lw3_0;have Rw4_1:=zR hb Lw3_1 Rw3_1;have Lw4_1:=zL hb Lw3_1;have Fw4_v:=zB hb Fw3_v;have Fw4_u:=zB hb Fw3_u;have HBw4:=zB hb HBw3;clear hb;obtain ⟨⟨p0_0,p0_1,p0_2,p0_3,p0_4⟩, -⟩:=af Rw4_0.out;obtain ⟨⟨p1_0,p1_1,p1_2,p1_3,p1_4⟩, -⟩:=af Rw4_1.out;go_wp2_with fail;clear p0_0 p0_1 p0_2 p0_3 p0_4 p1_0 p1_1 p1_2 p1_3 p1_4;refine (bL v [.int .i64 vk,.int .i64 vn,.string vS,.slice vA vl vc,.slice vB vm vd] _ (HTT.out.below HBw4.out) (Hv.out.below Fw4_v.out (Nat.le_refl _) Fw4_v.out.size) (by rw [←HEv.out];exact qac _ _ (cY _ (.inl rfl)).1 (by have:=(cY _ (.inl rfl)).2.1;omega)) (by rw [←HEv.out];have:=qoT awV;have:=(cY _ (.inl rfl)).2.1;omega)).mono ?_;rintro e w5 ⟨x1,ps1,rfl,hown,hris,hmem,hb⟩;obtain ⟨Ak1,cc1,rfl,hx⟩:=Rd.of_own hown;have HO1:=zh (show Rd w5 w5.heap.size (.slice Ak1 (aV ps1).length cc1) (aV ps1) from ⟨Ak1,cc1,rfl,hx⟩);have HS1:=zh hris;have HM1:=zh hmem;rw [aL] at HO1 ⊢;clear hown hris hmem hx;have Rw5_0:=zR hb Lw4_0 Rw4_0;have Lw5_0:=zL hb Lw4_0;have Rw5_1:=zR hb Lw4_1 Rw4_1;have Lw5_1:=zL hb Lw4_1;have Fw5_v:=zB hb Fw4_v;have Fw5_u:=zB hb Fw4_u;have HBw5:=zB hb HBw4;clear hb;have he1:ps1=[]:=qe4 (fun n hn=>by
  have:=(HM1.out n).1 hn;rw [←HEv.out,qrS n] at this;cases this)
 subst he1;obtain ⟨⟨p0_0,p0_1,p0_2,p0_3,p0_4⟩, -⟩:=af Rw5_0.out;obtain ⟨⟨p1_0,p1_1,p1_2,p1_3,p1_4⟩, -⟩:=af Rw5_1.out;go_wp2_with fail;clear p0_0 p0_1 p0_2 p0_3 p0_4 p1_0 p1_1 p1_2 p1_3 p1_4;refine (bL u [.int .i64 uk,.int .i64 un,.string uS,.slice uA ul uc,.slice uB um ud] _ (HTT.out.below HBw5.out) (Hu.out.below Fw5_u.out (Nat.le_refl _) Fw5_u.out.size) (by rw [←HEu.out];exact qac _ _ (cY _ (.inr (.inl rfl))).1 (by have:=(cY _ (.inr (.inl rfl))).2.1;omega)) (by rw [←HEu.out];have:=qoT awW;have:=(cY _ (.inr (.inl rfl))).2.1;omega)).mono ?_;rintro e w6 ⟨x2,ps2,rfl,hown,hris,hmem,hb⟩;obtain ⟨Ak2,cc2,rfl,hx⟩:=Rd.of_own hown;have HO2:=zh (show Rd w6 w6.heap.size (.slice Ak2 (aV ps2).length cc2) (aV ps2) from ⟨Ak2,cc2,rfl,hx⟩);have HS2:=zh hris;have HM2:=zh hmem;rw [aL] at HO2 ⊢;clear hown hris hmem hx;have Rw6_0:=zR hb Lw5_0 Rw5_0;have Lw6_0:=zL hb Lw5_0;have Rw6_1:=zR hb Lw5_1 Rw5_1;have Lw6_1:=zL hb Lw5_1;have Fw6_v:=zB hb Fw5_v;have Fw6_u:=zB hb Fw5_u;have HBw6:=zB hb HBw5;clear hb;have he2:ps2=[[117,105,100],[118,101,114,115,105,111,110],[120]]:=qlQ HS2.out (by decide +kernel) (fun n=>by rw [HM2.out n,←HEu.out];exact qsc n);subst he2;obtain ⟨Z,hZ⟩:∃ Z,Z=w6.alloc (.cells #[.string ⟨#[117,105,100]⟩,.string ⟨#[118,101,114,115,105,111,110]⟩,.string ⟨#[120]⟩] 9):=⟨_,rfl⟩
 have hb:Below w6.heap.size w6 Z:=by rw [hZ];exact (Below.refl _ _).alloc (Nat.le_refl _) _
 have hrz:Z.heap[w6.heap.size]? = some (.cells #[.string ⟨#[117,105,100]⟩,.string ⟨#[118,101,114,115,105,111,110]⟩,.string ⟨#[120]⟩] 9 (0,0)):=by rw [hZ];exact ag _ _
 have hsz:Z.heap.size=w6.heap.size+1:=by rw [hZ,az]
 have HQ:=zh (cy (.slice Ak2 3 cc2) (.slice (some ⟨w6.heap.size,0,none⟩) 3 3) [[117,105,100],[118,101,114,115,105,111,110],[120]] [[117,105,100],[118,101,114,115,105,111,110],[120]] Z ((HO2.out.below' hb (Nat.le_refl _)).more (by omega)) ⟨some ⟨w6.heap.size,0,none⟩,3,rfl,fun _=>⟨_,rfl,by show w6.heap.size<Z.heap.size;omega,fun j u hu=>by
  match j,hu with
  | 0,hu=>injection hu with hu;rw [Addr.add_lit,cell_of_row _ _ _ _ _ _ hrz,←hu];rfl
  | 1,hu=>injection hu with hu;rw [Addr.add_lit,cell_of_row _ _ _ _ _ _ hrz,←hu];rfl
  | 2,hu=>injection hu with hu;rw [Addr.add_lit,cell_of_row _ _ _ _ _ _ hrz,←hu];rfl⟩⟩ (by decide))
 have RZ_0:=zR hb Lw6_0 Rw6_0;have LZ_0:=zL hb Lw6_0;have RZ_1:=zR hb Lw6_1 Rw6_1;have LZ_1:=zL hb Lw6_1;have FZ_v:=zB hb Fw6_v;have FZ_u:=zB hb Fw6_u;have HBZ:=zB hb HBw6;have HZ:=zh hZ;clear hZ hb hrz hsz;obtain ⟨⟨p0_0,p0_1,p0_2,p0_3,p0_4⟩, -⟩:=af Rw6_0.out;obtain ⟨⟨p1_0,p1_1,p1_2,p1_3,p1_4⟩, -⟩:=af Rw6_1.out;go_wp2_with fail;rw [←HZ.out];clear p0_0 p0_1 p0_2 p0_3 p0_4 p1_0 p1_1 p1_2 p1_3 p1_4;refine HQ.out.mono ?_;rintro e w7 ⟨⟨b,rfl,hq⟩,hb⟩;obtain rfl:b=true:=hq.2 (by trivial);clear hq HQ;have Rw7_0:=zR hb LZ_0 RZ_0;have Lw7_0:=zL hb LZ_0;have Rw7_1:=zR hb LZ_1 RZ_1;have Lw7_1:=zL hb LZ_1;have Fw7_v:=zB hb FZ_v;have Fw7_u:=zB hb FZ_u;have HBw7:=zB hb HBZ;clear hb;go_wp2;go_ret;exact ⟨rfl,HBw7.out⟩
