/- Merged: CdM. -/
import Derived.Test.YtnecfkhbncepnaaGreatDoorTt59
import Derived.Test.YtnecfkhbncepnaaGreatDoorTt55
set_option maxRecDepth 100000
set_option maxHeartbeats 4000000
namespace Go.Proofs.YtnecfkhbncepnaaGreatDoor
namespace Cd
open Go.Proofs Go.RowKit Go.Lib Utf Sc Re Tr
open Sm (Pr RdP af cX nm0)
open Po (bo bx dt)
open Wo (Tl)
def qgo (g:Bool) (m:List UInt8×V):Bool:= !cY aI nm0 m || (decide (m.1=bv)&& !g)
def cz (g:Bool) (l:List (List UInt8×V)):List (List UInt8):=(l.filter (qgo g)).map Prod.fst
theorem qli (g:Bool) (l:List (List UInt8×V)) (m:List UInt8×V):cz g (l++[m])=cz g l++(if qgo g m=true then [m.1] else []):=by
 unfold cz;rw [List.filter_append,List.map_append]
 congr 1
 by_cases h:qgo g m=true
 ·rw [List.filter_cons,if_pos h,if_pos h];rfl
 ·rw [List.filter_cons,if_neg h,if_neg h];rfl
theorem qhD (g:Bool) (l:List (List UInt8×V)):(cz g l).length≤l.length:=by
 unfold cz;rw [List.length_map];exact List.length_filter_le _ _
theorem qfq {v:V} (hk:v.k=6) (hl:v.ns.length=v.ms.length):qak (b9 v cn) cj=true↔∃ t,fst (mem v) cn=some t∧t.k=4∧t.s=cj:=by
 have hg:gt v cn=fst (mem v) cn:=by unfold gt;rw [if_pos hk]
 by_cases h:cn∈inN v
 ·rw [←hg,qgM hl h];unfold qak;rw [decide_eq_true_iff];constructor
  ·intro h2;exact ⟨_,rfl,h2⟩
  ·rintro ⟨t,e,h2⟩;injection e with e;subst e;exact h2
 ·rw [←hg,qgK h];have hll:(inN v).length=(inM v).length:=by unfold inN inM;rw [if_pos hk,if_pos hk];exact hl
  rw [qcS hll h];constructor
  ·intro h2;cases h2
  ·rintro ⟨t,e, -⟩;cases e
theorem qqo {v:V} (hk:v.k=6) (hl:v.ns.length=v.ms.length) (n:List UInt8):n∈bB (af nm0) v.ns++cz (qak (b9 v cn) cj) (mem v)↔dD v n=true:=by
 rw [qfW hk,List.mem_append];unfold bB cz;simp only [List.mem_map,List.mem_filter];constructor
 ·rintro (⟨p,⟨h1,h2⟩,rfl⟩ | ⟨m,⟨h1,h2⟩,rfl⟩)
  ·simp only [Bool.and_eq_true,Bool.not_eq_true',decide_eq_false_iff_not] at h2;exact .inr (.inl ⟨p,h1,h2.1,rfl,h2.2⟩)
  ·unfold qgo at h2;simp only [Bool.or_eq_true,Bool.not_eq_true',Bool.and_eq_true,decide_eq_true_eq] at h2;rcases h2 with h2 | ⟨h2,h3⟩
   ·exact .inl ⟨m,h1,rfl,h2⟩
   ·refine .inr (.inr ⟨h2,by rw [←h2];exact qkQ h1,fun h4=>?_⟩);rw [(qfq hk hl).2 h4] at h3;cases h3
 ·rintro (⟨m,h1,rfl,h2⟩ | ⟨p,h1,h2,rfl,h3⟩ | ⟨rfl,h1,h2⟩)
  ·exact .inr ⟨m,⟨h1,by unfold qgo;rw [h2];rfl⟩,rfl⟩
  ·exact .inl ⟨p,⟨h1,by rw [h2,zF h3];rfl⟩,rfl⟩
  ·obtain ⟨i,hi,e⟩:=List.getElem_of_mem h1;have hz:i<(v.ns.zip v.ms).length:=by rw [List.length_zip];omega
   refine .inr ⟨(v.ns.zip v.ms)[i],⟨List.getElem_mem hz,?_⟩,by rw [List.getElem_zip];exact e⟩;unfold qgo;have hg:qak (b9 v cn) cj=false:=by
    cases hc:qak (b9 v cn) cj with
    | false=>rfl
    | true=>exact absurd ((qfq hk hl).1 hc) h2
   rw [hg,show ((v.ns.zip v.ms)[i]).1=bv by rw [List.getElem_zip];exact e,decide_eq_true rfl];simp
theorem qaj (v:V) (cs:List Value) (w:World) (hT:St.Tab w) (hv:RdA w 0 w.heap.size v cs) (hz:szA 4611686018427387904 v) (hmm:v.ms.length≤2000000000000):Calls Tryz.prog 7 #[.agg cs.toArray] w (qq2 v w):=by
 obtain ⟨i1,hj,hy0,hy1,hy2⟩:=info_parts Wo.qn1;obtain ⟨A,c,A2,d,rfl,hn, -,hl⟩:=id hv.cells;obtain ⟨-, -, -, -,z5,z6, -,z8⟩:=(cI _ v).1 hz;have HPR:=zh (fun (u:World)=>(show Calls Tryz.prog 17 #[.string ⟨#[67,97,114,100]⟩] u (Sm.ai 76 (af nm0) u) from Sm.qbA (aa nm0) u));have HLA:=zh (fun (P:Value) (u:World) (hu:Below w.heap.size w u) (hP:RdP u u.heap.size P (af nm0))=>qdk (af nm0) P v _ u hP (Nat.le_trans (qa0 nm0) (by decide)) (hv.below hu (Nat.le_refl _) hu.size) hz);have HGR:=zh (fun (u:World) (hu:Below w.heap.size w u)=>qht v _ u (hv.below hu (Nat.le_refl _) hu.size) hz);have HIT:=zh (show ∀ i,i<v.ms.length→∃ g o,A2=some ⟨g,o,none⟩∧g<w.heap.size∧∃ (nm:List UInt8) (x:V) (xA:Option Addr) (xc:Nat) (xB:Option Addr) (xd:Nat),(mem v).take (i+1)=(mem v).take i++[(nm,x)]∧
   (w.cell? ⟨g,o+i*6,none⟩=some (.string (aa nm))∧w.cell? ⟨g,o+i*6+1,none⟩=some (.int .i64 x.k)∧w.cell? ⟨g,o+i*6+2,none⟩=some (.int .i64 x.n)∧w.cell? ⟨g,o+i*6+3,none⟩=some (.string (aa x.s))∧w.cell? ⟨g,o+i*6+4,none⟩=some (.slice xA x.l.length xc)∧w.cell? ⟨g,o+i*6+5,none⟩=some (.slice xB x.ms.length xd))∧
   ∀ (P:Value) (u:World),Below w.heap.size w u→RdP u u.heap.size P (af nm0)→Calls Tryz.prog 20 #[.string ⟨#[67,97,114,100]⟩,P,.agg #[.string (aa nm),.int .i64 x.k,.int .i64 x.n,.string (aa x.s),.slice xA x.l.length xc,.slice xB x.ms.length xd]] u (Tl (cY aI nm0 (nm,x)) u) from fun i hi=>by
  have hin:i<v.ns.length:=by omega
  obtain ⟨g,o,e, -,hg,hr⟩:=hl (by omega);obtain ⟨hcn,xs,hcell,hx⟩:=hr.at_ v.ms v.ns o i hi hin;obtain ⟨xA,xc,xB,xd,rfl, -⟩:=id hx.cells;have hzl:i<(mem v).length:=by unfold mem;rw [List.length_zip];omega
  refine ⟨g,o,e,hg,v.ns[i],v.ms[i],xA,xc,xB,xd,?_,⟨hcn,hcell 0 _ rfl,hcell 1 _ rfl,hcell 2 _ rfl,hcell 3 _ rfl,hcell 4 _ rfl⟩,fun P u hu hP=>?_⟩
  ·have e2:(mem v)[i]=(v.ns[i],v.ms[i]):=by show (v.ns.zip v.ms)[i]'hzl=_;exact List.getElem_zip
   rw [bZ (mem v) i hzl,e2]
  ·exact qfS (qnK (ht v)) nm0 v.ns[i] P v.ms[i] _ u (qdm (List.getElem_mem hi)) (hT.below hu) hP (by have:=z6 _ (List.getElem_mem hin);omega) (hx.below hu (Nat.le_refl _) hu.size) (aV z8 (List.getElem_mem hi)))
 have HNO:=zh (show v.k≠6→∀ n,n∈[cJ]↔dD v n=true from fun hk n=>by unfold dD;rw [if_neg hk,List.mem_singleton,decide_eq_true_iff]);have HYS:=zh (show v.k=6→∀ n,n∈qbj (bB (af nm0) v.ns++cz (qak (b9 v cn) cj) (mem v))↔dD v n=true from fun hk n=>by rw [qfp];exact qqo hk hn n);have HIN:=zh (show v.k=6→inN v=v.ns from fun hk=>by unfold inN;rw [if_pos hk]);have HMM:=zh (show (mem v).length=v.ms.length∧v.ms.length≤2000000000000 from ⟨by unfold mem;rw [List.length_zip];omega,hmm⟩);have HLK0:=zh (show ∀ ns,(bB (af nm0) ns).length≤30 from fun ns=>Nat.le_trans (qfQ _ _) (qa0 nm0));obtain ⟨lk',hlk'⟩:∃ x,bB (af nm0) (inN v)=x:=⟨_,rfl⟩
 have HLKD:=zh hlk'.symm;rw [hlk'] at HLA;clear hlk';generalize v.k=k at *;generalize v.n=n at *;generalize aa v.s=S at *;generalize v.l.length=l at *;obtain ⟨m,hm⟩:∃ m,v.ms.length=m:=⟨_,rfl⟩
 rw [hm] at HLA HGR HIT HMM hmm ⊢;clear hv hz hT hn hl z5 z6 z8 hm;obtain ⟨W0,hW0⟩:∃ W0,W0=w.alloc (.cells #[.int .i64 k,.int .i64 n,.string S,.slice A l c,.slice A2 m d] 25):=⟨_,rfl⟩
 have HB0:=zh (show Below w.heap.size w W0 by rw [hW0];exact aO _ _);have HS0:=zh (show W0.heap.size=w.heap.size+1 by rw [hW0,aF]);have HR0:=zh (show W0.heap[w.heap.size]? = some (.cells #[.int .i64 k,.int .i64 n,.string S,.slice A l c,.slice A2 m d] 25 (0,0)) by rw [hW0];exact ag _ _);have HW0:=zh hW0;clear hW0;by_cases hk:k=6
 ·have HBD:=zh (HYS.out hk);have HI6:=zh (HIN.out hk);subst hk;have HLKE:=zh (show lk'=bB (af nm0) (inN v) from HLKD.out);clear HNO HYS HIN HLKD;go_enter Tryz.func7,Tryz.ntmps7;have q:=HR0.out;rw [HW0.out] at q;obtain ⟨⟨p0,p1,p2,p3,p4⟩, -⟩:=ae q;clear q;go_wp2_with fail;rw [←HW0.out];refine (HPR.out _).mono ?_;rintro e w1 ⟨P,rfl,hown,hb⟩;have HP1:=zh (Sm.RdP.of_own hown);have HE1:=zh hb;have HB1:=zB hb HB0;have hr1:=(hb.block w.heap.size (by rw [HS0.out];exact Nat.lt_succ_self _)).trans HR0.out;have HR1:=zh hr1;obtain ⟨PA,pc,rfl, -⟩:=HP1.out;generalize (af nm0).length=pq at *;clear hown hb p0 p1 p2 p3 p4;obtain ⟨⟨p0,p1,p2,p3,p4⟩, -⟩:=ae hr1;clear hr1;go_wp2_with fail;refine (HLA.out _ _ HB1.out HP1.out).mono ?_;rintro e w2 ⟨z,rfl,hown,hb⟩;have HE2:=zh hb;have HB2:=zB hb HB1;have HO2:=zh hown;have HS1:=zh (show w.heap.size+1≤w1.heap.size by have:=HE1.out.size;rw [HS0.out] at this;exact this);have hr2:=(hb.block w.heap.size HS1.out).trans HR1.out;have HR2:=zh hr2;clear hown hb p0 p1 p2 p3 p4;obtain ⟨⟨p0,p1,p2,p3,p4⟩, -⟩:=ae hr2;clear hr2;go_wp2_with fail;refine (HGR.out _ HB2.out).mono ?_;rintro e w3 ⟨rfl,hb⟩;have HE3:=zB hb HE2;have HLK:=zh (show lk'.length≤30 by rw [HLKE.out];exact HLK0.out _);have HO3:=zh (bD HO2.out hb);have hr3:=(hb.block w.heap.size (by have:=HE2.out.size;have:=HS1.out;omega)).trans HR2.out;clear hb p0 p1 p2 p3 p4;obtain ⟨⟨p0,p1,p2,p3,p4⟩, -⟩:=ae hr3;clear hr3;have HBD2:=zh (show ∀ n,n∈qbj (lk'++cz (qak (b9 v cn) cj) (mem v))↔dD v n=true by rw [HLKE.out,HI6.out];exact HBD.out);obtain ⟨lk,hlk⟩:∃ x,lk'=x:=⟨_,rfl⟩
  rw [hlk] at HLK HO3 HBD2;generalize qak (b9 v cn) cj=g at *;clear hlk HBD;go_wp2_with fail;clear p0 p1 p2 p3 p4;go_loopw [4,21] (fun s i wr=>∃ q:Nat,i = .int .i64 (q:Int)∧q≤m∧Aside (wr.ownsRow w1.heap.size 9 1 s (lk++cz g ((mem v).take q)).length (bo (lk++cz g ((mem v).take q))))∧Aside (Below w1.heap.size w1 wr)) (fun _ i _=>m-(RowKit.intOf i).toNat)
  case atStart=>exact ⟨0,rfl,by omega,(show World.ownsRow _ _ _ _ _ _ _ by rw [List.take_zero,show cz g []=[] from rfl,List.append_nil];exact HO3.out),(show Below _ _ _ from HE3.out)⟩
  case round=>
   obtain ⟨kk,rfl,hk,hrow,hbel⟩:=hrel;have hown:=hrow.out;have HE:=zh hbel.out;have HB:=zh (HB1.out.trans (hbel.out.mono HB1.out.size));clear hrow hbel;by_cases hlt:kk<m
   ·have t1:decide ((kk:Int)<(m:Int))=true:=zT (by omega);have t2:decide (kk<m)=true:=zT hlt;have k0:(0:Int)≤(kk:Int):=by omega
    have k1:(kk:Int)<(m:Int):=by omega
    have k2:((kk:Int)).toNat=kk:=by omega
    obtain ⟨gb,o,rfl,hgb,nm,x,xA,xc,xB,xd,htk,⟨c0,c1,c2,c3,c4,c5⟩,hcall⟩:=HIT.out kk hlt;have a0:=(HB.out.cell (p:=⟨gb,o+kk*6,none⟩) hgb).trans c0;have a1:=(HB.out.cell (p:=⟨gb,o+kk*6+1,none⟩) hgb).trans c1;have a2:=(HB.out.cell (p:=⟨gb,o+kk*6+2,none⟩) hgb).trans c2;have a3:=(HB.out.cell (p:=⟨gb,o+kk*6+3,none⟩) hgb).trans c3;have a4:=(HB.out.cell (p:=⟨gb,o+kk*6+4,none⟩) hgb).trans c4;have a5:=(HB.out.cell (p:=⟨gb,o+kk*6+5,none⟩) hgb).trans c5;have HTK:=zh (show lk++cz g ((mem v).take (kk+1))=lk++(cz g ((mem v).take kk)++(if qgo g (nm,x)=true then [nm] else [])) by rw [htk,qli]);have HCL:=zh hcall;have HLN0:=zh (show (lk++cz g ((mem v).take kk)).length≤2000000000100 by
     have h1:=HLK.out;have h2:=qhD g ((mem v).take kk);rw [List.length_take] at h2;rw [List.length_append];have:=HMM.out;omega)
    clear htk hcall c0 c1 c2 c3 c4 c5 hgb;obtain ⟨b,hb⟩:∃ b,cY aI nm0 (nm,x)=b:=⟨_,rfl⟩
    have HOF:=zh (show qgo g (nm,x)=(!b || (decide (nm=bv)&& !g)) by unfold qgo;rw [hb]);rw [hb] at HCL;clear hb;rw [HOF.out] at HTK;obtain ⟨X,hX⟩:∃ X,aa nm=X:=⟨_,rfl⟩
    have HXX:=zh hX;rw [hX] at HCL a0;have HXL:=zh (show X.toList=nm by rw [←hX,ak]);clear hX HOF;generalize x.k=xk at *;generalize x.n=xn at *;generalize aa x.s=xS at *;generalize x.l.length=xl at *;generalize x.ms.length=xm at *;obtain ⟨W4,hW4⟩:∃ W4,W4=wr.alloc (.cells #[.string X,.int .i64 xk,.int .i64 xn,.string xS,.slice xA xl xc,.slice xB xm xd] 44):=⟨_,rfl⟩
    have HE4:=zh (show Below w1.heap.size w1 W4 by rw [hW4];exact HE.out.alloc HE.out.size _);have HO4:=zh (show W4.ownsRow w1.heap.size 9 1 u4 (lk++cz g ((mem v).take kk)).length (bo (lk++cz g ((mem v).take kk))) by rw [hW4];exact hown.alloc _);have HM4:=zh (show W4.heap[wr.heap.size]? = some (.cells #[.string X,.int .i64 xk,.int .i64 xn,.string xS,.slice xA xl xc,.slice xB xm xd] 44 (0,0)) by rw [hW4];exact ag _ _);have HS4:=zh (show wr.heap.size<W4.heap.size by rw [hW4,aF];exact Nat.lt_succ_self _);obtain ⟨y0,y1,y2,y3,y4,y5⟩:=cH (ag wr (.cells #[.string X,.int .i64 xk,.int .i64 xn,.string xS,.slice xA xl xc,.slice xB xm xd] 44));have HW4:=zh hW4;clear hW4 hown;have HCC:=zh (HCL.out _ W4 (HB1.out.trans (HE4.out.mono HB1.out.size)) ((HP1.out.below HE4.out (Nat.le_refl _)).more HE4.out.size));clear HCL;cases b with
    | false=>
     have OFF:(!false || (decide (nm=bv)&& !g))=true:=rfl;go_wp2_with fail;rw [←HW4.out];refine HCC.out.mono ?_;rintro e w5 ⟨rfl,hb5⟩;have HE5:=zh (HE4.out.trans (hb5.mono HE4.out.size));have hown5:=bD HO4.out hb5;obtain ⟨y0,y1,y2,y3,y4,y5⟩:=cH ((hb5.block wr.heap.size HS4.out).trans HM4.out);clear hb5 HCC;have HTK2:=zh (show lk++cz g ((mem v).take (kk+1))=(lk++cz g ((mem v).take kk))++[nm] by rw [HTK.out,OFF,if_pos rfl,List.append_assoc]);have HBB:=zh (show w1.heap.size≤w5.heap.size from HE5.out.size);generalize lk++cz g ((mem v).take kk)=ps at *;have HO5:=hown5;clear OFF hown5;go_wp2_with (at_builtin;refine wpList_append_lies _ rfl _ _ 28 rfl w1.heap.size 9 i1 _ 1 16 Tryz.underlying28 hj hy0 hy1 hy2 (by rfl) (by decide) u4 ps.length (bo ps) rfl (HO5.alloc _) ⟨w5.heap.size,0,none⟩ 1 1 [.string X] rfl rfl (bM _ _ _) ?_ ?_ ?_ ?_ ?_ _ rfl ?_;(intro u hu;simp at hu;subst hu;rfl);omega;(have:=HLN0.out;unfold maxLen;omega);(have:=HLN0.out;omega);(have:=HBB.out;rw [aF];omega);intro gg cap w6 hown6 hg6 hat hgl)
     have HO6:=zh (show w6.ownsRow w1.heap.size 9 1 (.slice (some ⟨gg,0,none⟩) (ps.length+1) cap) (lk++cz g ((mem v).take (kk+1))).length (bo (lk++cz g ((mem v).take (kk+1)))) by
      rw [HTK2.out,List.length_append,qeG];have e:bo [nm]=[.string X]:=by rw [←HXX.out];rfl
      rw [e];exact hown6)
     have HE6:=zh (show Below w1.heap.size w1 w6 from (HE5.out.alloc HBB.out _).grown hg6 (by have:=HBB.out;rw [aF];omega) (fun k hk=>(HO5.lt k hk).1));clear hown6 hg6 hat hgl HO5;go_wp2_with fail;go_roundw
     case rel=>exact ⟨kk+1,by go_num,by omega,HO6.out,HE6.out⟩
     case measure=>simp [RowKit.intOf];omega
    | true=>
     by_cases hnm:nm=bv
     ·have n1:(X.toList==[109,101,109,98,101,114,115])=true:=by rw [HXL.out,hnm];rfl
      have n2:X.toList=[109,101,109,98,101,114,115]:=by rw [HXL.out,hnm];rfl
      cases g with
      | true=>
       have OFF:(!true || (decide (nm=bv)&& !true))=false:=by simp
       go_wp2_with fail;rw [←HW4.out];refine HCC.out.mono ?_;rintro e w5 ⟨rfl,hb5⟩;have HE5:=zh (HE4.out.trans (hb5.mono HE4.out.size));have hown5:=bD HO4.out hb5;obtain ⟨y0,y1,y2,y3,y4,y5⟩:=cH ((hb5.block wr.heap.size HS4.out).trans HM4.out);clear hb5 HCC;have HO5:=zh (show w5.ownsRow w1.heap.size 9 1 u4 (lk++cz true ((mem v).take (kk+1))).length (bo (lk++cz true ((mem v).take (kk+1)))) by
        rw [HTK.out,OFF,if_neg Bool.false_ne_true,List.append_nil];exact hown5)
       clear hown5 OFF;go_wp2_with fail;go_roundw
       case rel=>exact ⟨kk+1,by go_num,by omega,HO5.out,HE5.out⟩
       case measure=>simp [RowKit.intOf];omega
      | false=>
       have OFF:(!true || (decide (nm=bv)&& !false))=true:=by rw [zT hnm];rfl
       go_wp2_with fail;rw [←HW4.out];refine HCC.out.mono ?_;rintro e w5 ⟨rfl,hb5⟩;have HE5:=zh (HE4.out.trans (hb5.mono HE4.out.size));have hown5:=bD HO4.out hb5;obtain ⟨y0,y1,y2,y3,y4,y5⟩:=cH ((hb5.block wr.heap.size HS4.out).trans HM4.out);clear hb5 HCC;have HTK2:=zh (show lk++cz false ((mem v).take (kk+1))=(lk++cz false ((mem v).take kk))++[nm] by rw [HTK.out,OFF,if_pos rfl,List.append_assoc]);have HBB:=zh (show w1.heap.size≤w5.heap.size from HE5.out.size);generalize lk++cz false ((mem v).take kk)=ps at *;have HO5:=hown5;clear OFF hown5;go_wp2_with (at_builtin;refine wpList_append_lies _ rfl _ _ 28 rfl w1.heap.size 9 i1 _ 1 16 Tryz.underlying28 hj hy0 hy1 hy2 (by rfl) (by decide) u4 ps.length (bo ps) rfl (HO5.alloc _) ⟨w5.heap.size,0,none⟩ 1 1 [.string X] rfl rfl (bM _ _ _) ?_ ?_ ?_ ?_ ?_ _ rfl ?_;(intro u hu;simp at hu;subst hu;rfl);omega;(have:=HLN0.out;unfold maxLen;omega);(have:=HLN0.out;omega);(have:=HBB.out;rw [aF];omega);intro gg cap w6 hown6 hg6 hat hgl)
       have HO6:=zh (show w6.ownsRow w1.heap.size 9 1 (.slice (some ⟨gg,0,none⟩) (ps.length+1) cap) (lk++cz false ((mem v).take (kk+1))).length (bo (lk++cz false ((mem v).take (kk+1)))) by
        rw [HTK2.out,List.length_append,qeG];have e:bo [nm]=[.string X]:=by rw [←HXX.out];rfl
        rw [e];exact hown6)
       have HE6:=zh (show Below w1.heap.size w1 w6 from (HE5.out.alloc HBB.out _).grown hg6 (by have:=HBB.out;rw [aF];omega) (fun k hk=>(HO5.lt k hk).1));clear hown6 hg6 hat hgl HO5;go_wp2_with fail;go_roundw
       case rel=>exact ⟨kk+1,by go_num,by omega,HO6.out,HE6.out⟩
       case measure=>simp [RowKit.intOf];omega
     ·have n1:(X.toList==[109,101,109,98,101,114,115])=false:=by rw [HXL.out];exact beq_eq_false_iff_ne.2 hnm
      have n2:¬X.toList=[109,101,109,98,101,114,115]:=by rw [HXL.out];exact hnm
      have OFF:(!true || (decide (nm=bv)&& !g))=false:=by rw [zF hnm];rfl
      go_wp2_with fail;rw [←HW4.out];refine HCC.out.mono ?_;rintro e w5 ⟨rfl,hb5⟩;have HE5:=zh (HE4.out.trans (hb5.mono HE4.out.size));have hown5:=bD HO4.out hb5;obtain ⟨y0,y1,y2,y3,y4,y5⟩:=cH ((hb5.block wr.heap.size HS4.out).trans HM4.out);clear hb5 HCC;have HO5:=zh (show w5.ownsRow w1.heap.size 9 1 u4 (lk++cz g ((mem v).take (kk+1))).length (bo (lk++cz g ((mem v).take (kk+1)))) by
       rw [HTK.out,OFF,if_neg Bool.false_ne_true,List.append_nil];exact hown5)
      clear hown5 OFF;go_wp2_with fail;go_roundw
      case rel=>exact ⟨kk+1,by go_num,by omega,HO5.out,HE5.out⟩
      case measure=>simp [RowKit.intOf];omega
   ·have t1:decide ((kk:Int)<(m:Int))=false:=zF (by omega);have t2:decide (kk<m)=false:=zF hlt;have HTE:=zh (show (mem v).take kk=mem v from List.take_of_length_le (by have:=HMM.out;omega));rw [HTE.out] at hown;have HLN:=zh (show (lk++cz g (mem v)).length≤2000000000100 by
     have h1:=HLK.out;have h2:=qhD g (mem v);rw [List.length_append];have:=HMM.out;omega)
    generalize lk++cz g (mem v)=zs at *;have HSRT:=zh (qiE zs);rcases Nat.eq_zero_or_pos zs.length with h0 | h0
    ·obtain rfl:zs=[]:=List.eq_nil_of_length_eq_zero h0;have HO:=zh hown;obtain ⟨Z,zc,rfl, -⟩:=Rd.of_own hown;rw [show (bo []).length=0 from rfl] at HO ⊢;clear hown h0;go_wp2_with fail;refine (qgW _ _ _).mono ?_;rintro e w5 ⟨rfl,rfl⟩;go_wp2_with fail;refine (qf9 _ _ _).mono ?_;rintro e w6 ⟨rfl,rfl⟩;go_wp2_with fail;go_ret;exact ⟨_,[],rfl,qcp HO.out HB1.out.size,List.Pairwise.nil,fun n=>(qfp [] n).symm.trans (HBD2.out n),HB.out⟩
    ·obtain ⟨gg,cap,rfl,hgg,hgl⟩:=hown.form h0;have hms:(zs.mergeSort fun x y=>decide (x≤y)).length=zs.length:=(List.mergeSort_perm zs _).length_eq;have HSO:=zh (qlf zs wr HE.out.size hown (by have:=HLN.out;omega));have HCO:=zh (fun (u:World) (hu:w1.heap.size≤u.heap.size) (h:u.ownsRow w1.heap.size 9 1 (.slice (some ⟨gg,0,none⟩) zs.length cap) zs.length (bo (zs.mergeSort fun x y=>decide (x≤y))))=>(show Calls Tryz.prog 22 #[.slice (some ⟨gg,0,none⟩) zs.length cap] u (fun e w'=>e = .returned (.slice (some ⟨gg,0,none⟩) (qbj zs).length cap)∧w'.ownsRow w1.heap.size 9 1 (.slice (some ⟨gg,0,none⟩) (qbj zs).length cap) (qbj zs).length (bo (qbj zs))∧Below w1.heap.size u w') from by
      rw [←hms] at h ⊢;exact qmf (zs.mergeSort fun x y=>decide (x≤y)) u hu h (by rw [hms];have:=HLN.out;omega)))
     generalize (zs.mergeSort fun x y=>decide (x≤y))=zz at *;generalize qbj zs=ns at *;generalize zs.length=zl at *;clear hown hgg hgl h0 hms;go_wp2_with fail;refine HSO.out.mono ?_;rintro e w5 ⟨rfl,ho5,hb5⟩;have HE5:=zh (HE.out.trans hb5);have HC5:=zh (HCO.out w5 HE5.out.size ho5);clear ho5 hb5;go_wp2_with fail;refine HC5.out.mono ?_;rintro e w6 ⟨rfl,ho6,hb6⟩;have HO6:=zh (qcp ho6 HB1.out.size);have HB6:=zh (HB1.out.trans ((HE5.out.trans hb6).mono HB1.out.size));clear ho6 hb6;go_wp2_with fail;go_ret;exact ⟨_,ns,rfl,HO6.out,HSRT.out,HBD2.out,HB6.out⟩
 ·have HBD:=zh (HNO.out hk);have t1:(k != 6)=true:=bne_iff_ne.2 hk;have t2:(k==6)=false:=beq_eq_false_iff_ne.2 hk;clear HNO HYS HIN;go_enter Tryz.func7,Tryz.ntmps7;have q:=HR0.out;rw [HW0.out] at q;obtain ⟨⟨p0,p1,p2,p3,p4⟩, -⟩:=ae q;clear q;go_wp2_with fail;rw [←HW0.out];go_ret;obtain ⟨x,hx1,hx2,hx3⟩:=qk1 (w:=W0) (E:=9) (xs:=[.string ⟨#[64,116,121,112,101]⟩]) (cs:= #[.string ⟨#[64,116,121,112,101]⟩]) (k:=1) rfl rfl (by decide);refine ⟨x,[cJ],?_,qcp hx2 HB0.out.size,List.pairwise_singleton _ _,HBD.out,HB0.out.trans (hx3.mono HB0.out.size)⟩;rw [←hx1,HS0.out];rfl
