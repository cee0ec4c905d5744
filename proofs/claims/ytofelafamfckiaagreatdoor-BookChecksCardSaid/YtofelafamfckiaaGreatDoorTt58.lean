/- Merged: BkP. -/
import Derived.Test.YtofelafamfckiaaGreatDoorTt48
import Derived.Test.YtofelafamfckiaaGreatDoorTt53
import Derived.Test.YtofelafamfckiaaGreatDoorTt37
import Derived.Test.YtofelafamfckiaaGreatDoorTt51
set_option maxRecDepth 100000
set_option maxHeartbeats 4000000
namespace Go.Proofs.YtofelafamfckiaaGreatDoor
namespace Bk
open Go.Proofs Go.RowKit Go.Lib Utf Sc Re Tr Po
open Cd (mem fst cK qaN tN tM cL qa2 qbp qb5 qb8 qag qac)
def qcU (m:List UInt8×V):Bool:= !aC m.1 m.2
def bi (l:List (List UInt8×V)):List (List UInt8):=(l.filter qcU).map Prod.fst
theorem qdZ (l:List (List UInt8×V)) (m:List UInt8×V):bi (l++[m])=bi l++(if qcU m=true then [m.1] else []):=by
 unfold bi;rw [List.filter_append,List.map_append]
 congr 1
 by_cases h:qcU m=true
 ·rw [List.filter_cons,if_pos h,if_pos h];rfl
 ·rw [List.filter_cons,if_neg h,if_neg h];rfl
theorem qbN (l:List (List UInt8×V)):(bi l).length≤l.length:=by
 unfold bi;rw [List.length_map];exact List.length_filter_le _ _
def lkS (v:V):List (List UInt8):=if ah∈inN v then [] else [ah]
theorem qlb {v:V} (hk:v.k=6) (n:List UInt8):n∈lkS v++bi (mem v)↔bI v n=true:=by
 have hi:inN v=v.ns:=by unfold inN;rw [if_pos hk]
 rw [cV hk,List.mem_append];unfold lkS bi;rw [hi];simp only [List.mem_map,List.mem_filter];constructor
 ·rintro (h | ⟨m,⟨h1,h2⟩,rfl⟩)
  ·split at h
   ·cases h
   ·rename_i hx
    rw [List.mem_singleton] at h;exact .inr ⟨h,hx⟩
  ·exact .inl ⟨m,h1,rfl,by unfold qcU at h2;simpa using h2⟩
 ·rintro (⟨m,h1,rfl,h2⟩ | ⟨rfl,hx⟩)
  ·exact .inr ⟨m,⟨h1,by unfold qcU;rw [h2];rfl⟩,rfl⟩
  ·exact .inl (by rw [if_neg hx];simp)
theorem qkl (v:V):(lkS v).length≤1:=by unfold lkS;split <;> simp
theorem dw {w:World} {b b' E z n:Nat} {v:Value} {xs:List Value} (h:w.ownsRow b E z v n xs) (hb:b'≤b):w.ownsRow b' E z v n xs:=
 ⟨h.1,h.2.imp id fun ⟨g,cap,cur,h1,h2,h3⟩=>⟨g,cap,cur,h1,Nat.le_trans hb h2,h3⟩⟩
theorem qfP (w:World) (E:TypeId) (cs:Array Value) (n:Nat) (hn:w.heap.size=n):∀ j u,cs.toList[j]? = some u→(w.alloc (.cells cs E)).cell? ((⟨n,0,none⟩:Addr).add j)=some u:=by
 subst hn;exact aN w E cs
theorem qcE (a b:List (List UInt8)):aD (a++b)=aD a++aD b:=by unfold aD;rw [List.map_append]
theorem qfN (nm:List UInt8) (v:V) (cs:List Value) (W:World) {w:World} {lo hi:Nat} (hv:RdA w lo hi v cs):Calls Tryz.prog 26 #[.agg (.string (ae nm)::cs).toArray] W (qcp (.bool (aC nm v)) W):=by
 obtain ⟨A,c,A2,c2,rfl, -⟩:=hv.cells;exact qhl nm v A A2 c c2 W
theorem qad (v:V) (cs:List Value) (w:World) (hv:RdA w 0 w.heap.size v cs) (hz:szA 140737488355328 v):Calls Tryz.prog 11 #[.agg cs.toArray] w (cG v w):=by
 have sv:szA 4611686018427387904 v:=Em.du (by decide) _ hz;obtain ⟨i1,hj,hy0,hy1,hy2⟩:=info_parts Wo.ql5;have HGT:=zh (fun (W:World) (hW:Below w.heap.size w W)=>(qig w.heap.size v cs ah W hW.size (RdA.keep (fun p _ hp=>hW.cell (p:=p) hp) (Nat.le_refl _) (Nat.le_refl _) _ _ hv) sv).mono (fun e w' h=>qeN hW h));rw [show ae ah=(⟨#[110,97,109,101]⟩:ByteArray) from rfl] at HGT;obtain ⟨A0,c0,A20,c20,T,ecs,t1,t2,t3,t4,t5,t6⟩:=cK hv;have hT:T.length*96≤140737488355328:=by rw [t1];exact ((bH _ v).1 hz).2.2.2.2.1
 have hmem:=qaN t2 t3;subst ecs;clear hv hz sv;have HNO:=zh (show v.k≠6→∀ n,n∈[ah]↔bI v n=true from fun hk n=>by rw [qeS hk,List.mem_singleton]);have HYS:=zh (show v.k=6→∀ n,n∈cL (lkS v++bi (mem v))↔bI v n=true from fun hk n=>by rw [qa2];exact qlb hk n);obtain ⟨k,hk⟩:∃ x,v.k=x:=⟨_,rfl⟩
 rw [hk] at HGT HNO HYS ⊢;obtain ⟨n,hn⟩:∃ x,v.n=x:=⟨_,rfl⟩
 obtain ⟨S,hS⟩:∃ x,ae v.s=x:=⟨_,rfl⟩
 obtain ⟨l,hl⟩:∃ x,v.l.length=x:=⟨_,rfl⟩
 obtain ⟨m,hm⟩:∃ x,T.length=x:=⟨_,rfl⟩
 rw [hn,hS,hl,hm] at HGT ⊢;rw [hm] at hT;have HTL:=zh hm;have HRAW:=zh t4;have HRD:=zh t5;have HMEM:=zh hmem;have HMM:=zh (show m≤2000000000000 by omega);have HLK:=zh (qkl v);have HLD:=zh (show lkS v=if ah∈inN v then [] else [ah] from rfl);obtain ⟨q,hq⟩:∃ q,decide (ah∈inN v)=q:=⟨_,rfl⟩
 have HQ:=zh hq;rw [hq] at HGT;obtain ⟨W0,hW0⟩:∃ W0,W0=w.alloc (.cells #[.int .i64 k,.int .i64 n,.string S,.slice A0 l c0,.slice A20 m c20] 25):=⟨_,rfl⟩
 have HB0:=zh (show Below w.heap.size w W0 by rw [hW0];exact (Below.refl _ _).alloc (Nat.le_refl _) _);have HS0:=zh (show W0.heap.size=w.heap.size+1 by rw [hW0,aE]);have HR0:=zh (show W0.heap[w.heap.size]? = some (.cells #[.int .i64 k,.int .i64 n,.string S,.slice A0 l c0,.slice A20 m c20] 25 (0,0)) by rw [hW0];exact af _ _);have HW0:=zh hW0;clear hW0 hk hn hS hl hm t1 t2 t3 t4 t5 t6 hT hmem hq;by_cases hk:k=6
 ·have HBD:=zh (HYS.out hk);subst hk;clear HNO HYS;obtain ⟨lk,hlk⟩:∃ x,lkS v=x:=⟨_,rfl⟩
  rw [hlk] at HBD HLK HLD;have HBD2:=HBD;clear hlk HBD;go_enter Tryz.func11,Tryz.ntmps11;have q:=HR0.out;rw [HW0.out] at q;obtain ⟨⟨p0,p1,p2,p3,p4⟩, -⟩:=ag q;clear q;go_wp2_with fail;rw [←HW0.out];refine (HGT.out _ HB0.out).mono ?_;rintro e w1 ⟨⟨yk,yn,ys,yA,yl,yc,yB,yq,yd,rfl, -⟩,hb⟩;have HE1:=zh (show Below (w.heap.size+1) W0 w1 from hb.mono (Nat.le_of_eq HS0.out.symm));have hr1:=(hb.block w.heap.size (by rw [HS0.out];exact Nat.lt_succ_self _)).trans HR0.out;clear hb p0 p1 p2 p3 p4;obtain ⟨W2,hW2⟩:∃ W2,W2=w1.alloc (.cells #[.int .i64 yk,.int .i64 yn,.string ys,.slice yA yl yc,.slice yB yq yd] 25):=⟨_,rfl⟩
  have HE2:=zh (show Below (w.heap.size+1) W0 W2 by rw [hW2];exact HE1.out.alloc (by have:=HE1.out.size;have:=HS0.out;omega) _);have hr2:W2.heap[w.heap.size]? = some (.cells #[.int .i64 6,.int .i64 n,.string S,.slice A0 l c0,.slice A20 m c20] 25 (0,0)):=by rw [hW2];exact aj hr1 _
  have HR2:=zh hr2;rw [hW2] at hr2;obtain ⟨⟨p0,p1,p2,p3,p4⟩, -⟩:=ag hr2;clear hr1 hr2;have HW2:=zh hW2;clear hW2;cases q with
  | true=>
   have HLE:=zh (show lk=[] by rw [HLD.out,if_pos (of_decide_eq_true HQ.out)]);have HOL:=zh (show W2.ownsRow (w.heap.size+1) 9 1 (.slice none 0 0) lk.length (aD lk) by rw [HLE.out];exact World.ownsRow_nil _ _ _ _);have HEL:=HE2;have HW:=HW2;clear HLD HLE HQ HGT;go_wp2_with fail;rw [←HW.out];clear p0 p1 p2 p3 p4;go_loopw [3,25] (fun s i wr=>∃ q:Nat,i = .int .i64 (q:Int)∧q≤m∧Aside (wr.ownsRow (w.heap.size+1) 9 1 s (lk++bi ((mem v).take q)).length (aD (lk++bi ((mem v).take q))))∧Aside (Below (w.heap.size+1) W0 wr)) (fun _ i _=>m-(RowKit.intOf i).toNat)
   case atStart=>exact ⟨0,rfl,by omega,(show World.ownsRow _ _ _ _ _ _ _ by rw [List.take_zero,show bi []=[] from rfl,List.append_nil];exact HOL.out),(show Below _ _ _ from HEL.out)⟩
   case round=>
    obtain ⟨kk,rfl,hk,hrow,hbel⟩:=hrel;have hown:=hrow.out;have HE:=zh hbel.out;have HB:=zh (HB0.out.trans (hbel.out.mono (Nat.le_succ _)));clear hrow hbel;have hm9:m≤2000000000000:=HMM.out;by_cases hlt:kk<m
    ·have t1:decide ((kk:Int)<(m:Int))=true:=zT (by omega);have t2:decide (kk<m)=true:=zT hlt;have k0:(0:Int)≤(kk:Int):=by omega
     have k1:(kk:Int)<(m:Int):=by omega
     have k2:((kk:Int)).toNat=kk:=by omega
     have hkT:kk<T.length:=by rw [HTL.out];exact hlt
     obtain ⟨g,o,rfl,hg,hr⟩:=HRAW.out (by rw [List.length_map];omega);have h6:=(hr kk (by rw [List.length_map];exact hkT)).keep fun j=>HB.out.cell (p:=⟨g,j,none⟩) hg;rw [List.getElem_map] at h6;have hrd:=HRD.out _ (List.getElem_mem hkT);have htk:(mem v).take (kk+1)=(mem v).take kk++[(T[kk].1.nm,T[kk].2)]:=by
      rw [HMEM.out,List.take_succ_eq_append_getElem (by rw [List.length_map];exact hkT),List.getElem_map]
     obtain ⟨y,hy⟩:∃ y,T[kk].2=y:=⟨_,rfl⟩
     obtain ⟨x,hx⟩:∃ x,T[kk].1=x:=⟨_,rfl⟩
     rw [hx,hy] at hrd htk;rw [hx] at h6;obtain ⟨xm,xk,xn,xs,xA,xl,xc,xB,xq,xd⟩:=x;obtain ⟨a0,a1,a2,a3,a4,a5⟩:=h6;simp only at hrd htk a0 a1 a2 a3 a4 a5;have HMY:=zh (fun (W:World)=>qfN xm y _ W hrd);simp only [qbU] at HMY;have HTK:=zh (show lk++bi ((mem v).take (kk+1))=lk++(bi ((mem v).take kk)++(if qcU (xm,y)=true then [xm] else [])) by rw [htk,qdZ]);have HLN0:=zh (show (lk++bi ((mem v).take kk)).length≤2000000000100 by
      have h1:=HLK.out;have h2:=qbN ((mem v).take kk);rw [List.length_take] at h2;rw [List.length_append];have:=HMM.out;omega)
     obtain ⟨b,hb⟩:∃ b,aC xm y=b:=⟨_,rfl⟩
     have HOF:=zh (show qcU (xm,y) = !b by unfold qcU;rw [hb]);rw [hb] at HMY;rw [HOF.out] at HTK;obtain ⟨X,hX⟩:∃ X,ae xm=X:=⟨_,rfl⟩
     have HXX:=zh hX;rw [hX] at HMY a0;clear hr hrd hx hy hkT htk hb hX HOF hg;obtain ⟨W4,hW4⟩:∃ W4,W4=wr.alloc (.cells #[.string X,.int .i64 xk,.int .i64 xn,.string xs,.slice xA xl xc,.slice xB xq xd] 37):=⟨_,rfl⟩
     have HE4:=zh (show Below (w.heap.size+1) W0 W4 by rw [hW4];exact HE.out.alloc (by have:=HE.out.size;have:=HS0.out;omega) _);have HO4:=zh (show W4.ownsRow (w.heap.size+1) 9 1 u3 (lk++bi ((mem v).take kk)).length (aD (lk++bi ((mem v).take kk))) by rw [hW4];exact hown.alloc _);have HM4:=zh (show W4.heap[wr.heap.size]? = some (.cells #[.string X,.int .i64 xk,.int .i64 xn,.string xs,.slice xA xl xc,.slice xB xq xd] 37 (0,0)) by rw [hW4];exact af _ _);have HS4:=zh (show wr.heap.size<W4.heap.size by rw [hW4,aE];exact Nat.lt_succ_self _);obtain ⟨y0,y1,y2,y3,y4,y5⟩:=qdr (af wr (.cells #[.string X,.int .i64 xk,.int .i64 xn,.string xs,.slice xA xl xc,.slice xB xq xd] 37));have HW4:=zh hW4;clear hW4 hown;have HCC:=zh (HMY.out W4);clear HMY;cases b with
     | false=>
      have OFF:(!false)=true:=rfl;go_wp2_with fail;rw [←HW4.out];refine HCC.out.mono ?_;rintro e w5 ⟨rfl,hb5⟩;have HE5:=zh (HE4.out.trans (hb5.mono (by have:=HE4.out.size;have:=HS0.out;omega)));have hown5:=aH HO4.out hb5;obtain ⟨y0,y1,y2,y3,y4,y5⟩:=qdr ((hb5.block wr.heap.size HS4.out).trans HM4.out);clear hb5 HCC;have HTK2:=zh (show lk++bi ((mem v).take (kk+1))=(lk++bi ((mem v).take kk))++[xm] by rw [HTK.out,OFF,if_pos rfl,List.append_assoc]);have HBB:=zh (show w.heap.size+1≤w5.heap.size by have:=HE5.out.size;have:=HS0.out;omega);generalize lk++bi ((mem v).take kk)=ps at *;have HO5:=hown5;clear OFF hown5;go_wp2_with (at_builtin;refine wpList_append_lies _ rfl _ _ 29 rfl (w.heap.size+1) 9 i1 _ 1 16 Tryz.underlying29 hj hy0 hy1 hy2 (by rfl) (by decide) u3 ps.length (aD ps) rfl (HO5.alloc _) ⟨w5.heap.size,0,none⟩ 1 1 [.string X] rfl rfl (aN _ _ _) ?_ ?_ ?_ ?_ ?_ _ rfl ?_;(intro u hu;simp at hu;subst hu;rfl);omega;(have:=HLN0.out;unfold maxLen;omega);(have:=HLN0.out;omega);(have:=HBB.out;rw [aE];omega);intro gg cap w6 hown6 hg6 hat hgl)
      have HO6:=zh (show w6.ownsRow (w.heap.size+1) 9 1 (.slice (some ⟨gg,0,none⟩) (ps.length+1) cap) (lk++bi ((mem v).take (kk+1))).length (aD (lk++bi ((mem v).take (kk+1)))) by
       rw [HTK2.out,List.length_append,qcE];have e:aD [xm]=[.string X]:=by rw [←HXX.out];rfl
       rw [e];exact hown6)
      have HE6:=zh (show Below (w.heap.size+1) W0 w6 from (HE5.out.alloc HBB.out _).grown hg6 (by have:=HBB.out;rw [aE];omega) (fun k hk=>(HO5.lt k hk).1));clear hown6 hg6 hat hgl HO5;go_wp2_with fail;go_roundw
      case rel=>exact ⟨kk+1,by go_num,by omega,HO6.out,HE6.out⟩
      case measure=>simp [RowKit.intOf];omega
     | true=>
      have OFF:(!true)=false:=rfl;go_wp2_with fail;rw [←HW4.out];refine HCC.out.mono ?_;rintro e w5 ⟨rfl,hb5⟩;have HE5:=zh (HE4.out.trans (hb5.mono (by have:=HE4.out.size;have:=HS0.out;omega)));have hown5:=aH HO4.out hb5;obtain ⟨y0,y1,y2,y3,y4,y5⟩:=qdr ((hb5.block wr.heap.size HS4.out).trans HM4.out);clear hb5 HCC;have HO5:=zh (show w5.ownsRow (w.heap.size+1) 9 1 u3 (lk++bi ((mem v).take (kk+1))).length (aD (lk++bi ((mem v).take (kk+1)))) by
       rw [HTK.out,OFF,if_neg Bool.false_ne_true,List.append_nil];exact hown5)
      clear hown5 OFF;go_wp2_with fail;go_roundw
      case rel=>exact ⟨kk+1,by go_num,by omega,HO5.out,HE5.out⟩
      case measure=>simp [RowKit.intOf];omega
    ·have t1:decide ((kk:Int)<(m:Int))=false:=zF (by omega);have t2:decide (kk<m)=false:=zF hlt;have HTE:=zh (show (mem v).take kk=mem v from List.take_of_length_le (by have:=HMM.out;rw [HMEM.out,List.length_map,HTL.out];omega));rw [HTE.out] at hown;have HLN:=zh (show (lk++bi (mem v)).length≤2000000000100 by
      have h1:=HLK.out;have h2:=qbN (mem v);rw [List.length_append];have:=HMM.out;have e:(mem v).length=m:=by rw [HMEM.out,List.length_map,HTL.out]
      omega)
     have hbw:w.heap.size+1≤wr.heap.size:=by have:=HE.out.size;have:=HS0.out;omega
     generalize lk++bi (mem v)=zs at *;have HSRT:=zh (qbp zs);rcases Nat.eq_zero_or_pos zs.length with h0 | h0
     ·obtain rfl:zs=[]:=List.eq_nil_of_length_eq_zero h0;have HO:=zh hown;obtain ⟨Z,zc,rfl, -⟩:=Rd.of_own hown;rw [show (aD []).length=0 from rfl] at HO ⊢;clear hown h0;go_wp2_with fail;refine (qag _ _ _).mono ?_;rintro e w5 ⟨rfl,rfl⟩;go_wp2_with fail;refine (qac _ _ _).mono ?_;rintro e w6 ⟨rfl,rfl⟩;go_wp2_with fail;go_ret;exact ⟨_,[],rfl,dw HO.out (Nat.le_succ _),List.Pairwise.nil,fun n=>(qa2 [] n).symm.trans (HBD2.out n),HB.out⟩
     ·obtain ⟨gg,cap,rfl,hgg,hgl⟩:=hown.form h0;have hms:(zs.mergeSort fun x y=>decide (x≤y)).length=zs.length:=(List.mergeSort_perm zs _).length_eq;have HSO:=zh (qb5 zs wr hbw hown (by have:=HLN.out;omega));have HCO:=zh (fun (u:World) (hu:w.heap.size+1≤u.heap.size) (h:u.ownsRow (w.heap.size+1) 9 1 (.slice (some ⟨gg,0,none⟩) zs.length cap) zs.length (aD (zs.mergeSort fun x y=>decide (x≤y))))=>(show Calls Tryz.prog 28 #[.slice (some ⟨gg,0,none⟩) zs.length cap] u (fun e w'=>e = .returned (.slice (some ⟨gg,0,none⟩) (cL zs).length cap)∧w'.ownsRow (w.heap.size+1) 9 1 (.slice (some ⟨gg,0,none⟩) (cL zs).length cap) (cL zs).length (aD (cL zs))∧Below (w.heap.size+1) u w') from by
       rw [←hms] at h ⊢;exact qb8 (zs.mergeSort fun x y=>decide (x≤y)) u hu h (by rw [hms];have:=HLN.out;omega)))
      generalize (zs.mergeSort fun x y=>decide (x≤y))=zz at *;generalize cL zs=ns at *;generalize zs.length=zl at *;clear hown hgg hgl h0 hms;go_wp2_with fail;refine HSO.out.mono ?_;rintro e w5 ⟨rfl,ho5,hb5⟩;have HE5:=zh (HE.out.trans hb5);have HC5:=zh (HCO.out w5 (by have:=HE5.out.size;have:=HS0.out;omega) ho5);clear ho5 hb5;go_wp2_with fail;refine HC5.out.mono ?_;rintro e w6 ⟨rfl,ho6,hb6⟩;have HO6:=zh (dw ho6 (Nat.le_succ _));have HB6:=zh (HB0.out.trans ((HE5.out.trans hb6).mono (Nat.le_succ _)));clear ho6 hb6;go_wp2_with fail;go_ret;exact ⟨_,ns,rfl,HO6.out,HSRT.out,HBD2.out,HB6.out⟩
  | false=>
   have HLE:=zh (show lk=[ah] by rw [HLD.out,if_neg (of_decide_eq_false HQ.out)]);have hs2:w.heap.size+1≤W2.heap.size:=by have:=HE2.out.size;have:=HS0.out;omega
   have hown0:(w1.alloc (.cells #[.int .i64 yk,.int .i64 yn,.string ys,.slice yA yl yc,.slice yB yq yd] 25)).ownsRow (w.heap.size+1) 9 1 (.slice none 0 0) ([]:List (List UInt8)).length (aD []):=World.ownsRow_nil _ _ _ _;have HSZ:=zh (show w.heap.size+1≤(w1.alloc (.cells #[.int .i64 yk,.int .i64 yn,.string ys,.slice yA yl yc,.slice yB yq yd] 25)).heap.size by rw [←HW2.out];exact hs2);have HNB:=zh (show ([]:List (List UInt8)).length≤2000000000100 by simp);clear HLD HQ HGT hs2;go_wp2_with (at_builtin;refine wpList_append_lies _ rfl _ _ 29 rfl (w.heap.size+1) 9 i1 _ 1 16 Tryz.underlying29 hj hy0 hy1 hy2 (by rfl) (by decide) (.slice none 0 0) ([]:List (List UInt8)).length (aD ([]:List (List UInt8))) rfl (hown0.alloc _) ⟨w1.heap.size+1,0,none⟩ 1 1 [.string ⟨#[110,97,109,101]⟩] rfl rfl (qfP _ _ _ _ (by rw [aE])) ?_ ?_ ?_ ?_ ?_ _ rfl ?_;(intro u hu;simp at hu;subst hu;rfl);omega;(have:=HNB.out;unfold maxLen;omega);(have:=HNB.out;omega);(have:=HSZ.out;rw [aE];omega);intro gg cap W3 hown3 hg3 hat hgl;have HEL:=zh (show Below (w.heap.size+1) W0 W3 from ((HW2.out▸HE2.out).alloc HSZ.out _).grown hg3 (by have:=HSZ.out;rw [aE];omega) (fun k hk=>(hown0.lt k hk).1));have hr3:=(HEL.out.block w.heap.size (Nat.lt_succ_self _)).trans HR0.out;obtain ⟨⟨e0,e1,e2,e3,e4⟩, -⟩:=ag hr3)
   have HOL:=zh (show W3.ownsRow (w.heap.size+1) 9 1 (.slice (some ⟨gg,0,none⟩) (([]:List (List UInt8)).length+1) cap) lk.length (aD lk) by rw [HLE.out];exact hown3);clear hown3 hg3 hat hgl hown0 HLE p0 p1 p2 p3 p4 hr3;clear e0 e1 e2 e3 e4;go_loopw [3,25] (fun s i wr=>∃ q:Nat,i = .int .i64 (q:Int)∧q≤m∧Aside (wr.ownsRow (w.heap.size+1) 9 1 s (lk++bi ((mem v).take q)).length (aD (lk++bi ((mem v).take q))))∧Aside (Below (w.heap.size+1) W0 wr)) (fun _ i _=>m-(RowKit.intOf i).toNat)
   case atStart=>exact ⟨0,rfl,by omega,(show World.ownsRow _ _ _ _ _ _ _ by rw [List.take_zero,show bi []=[] from rfl,List.append_nil];exact HOL.out),(show Below _ _ _ from HEL.out)⟩
   case round=>
    obtain ⟨kk,rfl,hk,hrow,hbel⟩:=hrel;have hown:=hrow.out;have HE:=zh hbel.out;have HB:=zh (HB0.out.trans (hbel.out.mono (Nat.le_succ _)));clear hrow hbel;have hm9:m≤2000000000000:=HMM.out;by_cases hlt:kk<m
    ·have t1:decide ((kk:Int)<(m:Int))=true:=zT (by omega);have t2:decide (kk<m)=true:=zT hlt;have k0:(0:Int)≤(kk:Int):=by omega
     have k1:(kk:Int)<(m:Int):=by omega
     have k2:((kk:Int)).toNat=kk:=by omega
     have hkT:kk<T.length:=by rw [HTL.out];exact hlt
     obtain ⟨g,o,rfl,hg,hr⟩:=HRAW.out (by rw [List.length_map];omega);have h6:=(hr kk (by rw [List.length_map];exact hkT)).keep fun j=>HB.out.cell (p:=⟨g,j,none⟩) hg;rw [List.getElem_map] at h6;have hrd:=HRD.out _ (List.getElem_mem hkT);have htk:(mem v).take (kk+1)=(mem v).take kk++[(T[kk].1.nm,T[kk].2)]:=by
      rw [HMEM.out,List.take_succ_eq_append_getElem (by rw [List.length_map];exact hkT),List.getElem_map]
     obtain ⟨y,hy⟩:∃ y,T[kk].2=y:=⟨_,rfl⟩
     obtain ⟨x,hx⟩:∃ x,T[kk].1=x:=⟨_,rfl⟩
     rw [hx,hy] at hrd htk;rw [hx] at h6;obtain ⟨xm,xk,xn,xs,xA,xl,xc,xB,xq,xd⟩:=x;obtain ⟨a0,a1,a2,a3,a4,a5⟩:=h6;simp only at hrd htk a0 a1 a2 a3 a4 a5;have HMY:=zh (fun (W:World)=>qfN xm y _ W hrd);simp only [qbU] at HMY;have HTK:=zh (show lk++bi ((mem v).take (kk+1))=lk++(bi ((mem v).take kk)++(if qcU (xm,y)=true then [xm] else [])) by rw [htk,qdZ]);have HLN0:=zh (show (lk++bi ((mem v).take kk)).length≤2000000000100 by
      have h1:=HLK.out;have h2:=qbN ((mem v).take kk);rw [List.length_take] at h2;rw [List.length_append];have:=HMM.out;omega)
     obtain ⟨b,hb⟩:∃ b,aC xm y=b:=⟨_,rfl⟩
     have HOF:=zh (show qcU (xm,y) = !b by unfold qcU;rw [hb]);rw [hb] at HMY;rw [HOF.out] at HTK;obtain ⟨X,hX⟩:∃ X,ae xm=X:=⟨_,rfl⟩
     have HXX:=zh hX;rw [hX] at HMY a0;clear hr hrd hx hy hkT htk hb hX HOF hg;obtain ⟨W4,hW4⟩:∃ W4,W4=wr.alloc (.cells #[.string X,.int .i64 xk,.int .i64 xn,.string xs,.slice xA xl xc,.slice xB xq xd] 37):=⟨_,rfl⟩
     have HE4:=zh (show Below (w.heap.size+1) W0 W4 by rw [hW4];exact HE.out.alloc (by have:=HE.out.size;have:=HS0.out;omega) _);have HO4:=zh (show W4.ownsRow (w.heap.size+1) 9 1 u3 (lk++bi ((mem v).take kk)).length (aD (lk++bi ((mem v).take kk))) by rw [hW4];exact hown.alloc _);have HM4:=zh (show W4.heap[wr.heap.size]? = some (.cells #[.string X,.int .i64 xk,.int .i64 xn,.string xs,.slice xA xl xc,.slice xB xq xd] 37 (0,0)) by rw [hW4];exact af _ _);have HS4:=zh (show wr.heap.size<W4.heap.size by rw [hW4,aE];exact Nat.lt_succ_self _);obtain ⟨y0,y1,y2,y3,y4,y5⟩:=qdr (af wr (.cells #[.string X,.int .i64 xk,.int .i64 xn,.string xs,.slice xA xl xc,.slice xB xq xd] 37));have HW4:=zh hW4;clear hW4 hown;have HCC:=zh (HMY.out W4);clear HMY;cases b with
     | false=>
      have OFF:(!false)=true:=rfl;go_wp2_with fail;rw [←HW4.out];refine HCC.out.mono ?_;rintro e w5 ⟨rfl,hb5⟩;have HE5:=zh (HE4.out.trans (hb5.mono (by have:=HE4.out.size;have:=HS0.out;omega)));have hown5:=aH HO4.out hb5;obtain ⟨y0,y1,y2,y3,y4,y5⟩:=qdr ((hb5.block wr.heap.size HS4.out).trans HM4.out);clear hb5 HCC;have HTK2:=zh (show lk++bi ((mem v).take (kk+1))=(lk++bi ((mem v).take kk))++[xm] by rw [HTK.out,OFF,if_pos rfl,List.append_assoc]);have HBB:=zh (show w.heap.size+1≤w5.heap.size by have:=HE5.out.size;have:=HS0.out;omega);generalize lk++bi ((mem v).take kk)=ps at *;have HO5:=hown5;clear OFF hown5;go_wp2_with (at_builtin;refine wpList_append_lies _ rfl _ _ 29 rfl (w.heap.size+1) 9 i1 _ 1 16 Tryz.underlying29 hj hy0 hy1 hy2 (by rfl) (by decide) u3 ps.length (aD ps) rfl (HO5.alloc _) ⟨w5.heap.size,0,none⟩ 1 1 [.string X] rfl rfl (aN _ _ _) ?_ ?_ ?_ ?_ ?_ _ rfl ?_;(intro u hu;simp at hu;subst hu;rfl);omega;(have:=HLN0.out;unfold maxLen;omega);(have:=HLN0.out;omega);(have:=HBB.out;rw [aE];omega);intro gg cap w6 hown6 hg6 hat hgl)
      have HO6:=zh (show w6.ownsRow (w.heap.size+1) 9 1 (.slice (some ⟨gg,0,none⟩) (ps.length+1) cap) (lk++bi ((mem v).take (kk+1))).length (aD (lk++bi ((mem v).take (kk+1)))) by
       rw [HTK2.out,List.length_append,qcE];have e:aD [xm]=[.string X]:=by rw [←HXX.out];rfl
       rw [e];exact hown6)
      have HE6:=zh (show Below (w.heap.size+1) W0 w6 from (HE5.out.alloc HBB.out _).grown hg6 (by have:=HBB.out;rw [aE];omega) (fun k hk=>(HO5.lt k hk).1));clear hown6 hg6 hat hgl HO5;go_wp2_with fail;go_roundw
      case rel=>exact ⟨kk+1,by go_num,by omega,HO6.out,HE6.out⟩
      case measure=>simp [RowKit.intOf];omega
     | true=>
      have OFF:(!true)=false:=rfl;go_wp2_with fail;rw [←HW4.out];refine HCC.out.mono ?_;rintro e w5 ⟨rfl,hb5⟩;have HE5:=zh (HE4.out.trans (hb5.mono (by have:=HE4.out.size;have:=HS0.out;omega)));have hown5:=aH HO4.out hb5;obtain ⟨y0,y1,y2,y3,y4,y5⟩:=qdr ((hb5.block wr.heap.size HS4.out).trans HM4.out);clear hb5 HCC;have HO5:=zh (show w5.ownsRow (w.heap.size+1) 9 1 u3 (lk++bi ((mem v).take (kk+1))).length (aD (lk++bi ((mem v).take (kk+1)))) by
       rw [HTK.out,OFF,if_neg Bool.false_ne_true,List.append_nil];exact hown5)
      clear hown5 OFF;go_wp2_with fail;go_roundw
      case rel=>exact ⟨kk+1,by go_num,by omega,HO5.out,HE5.out⟩
      case measure=>simp [RowKit.intOf];omega
    ·have t1:decide ((kk:Int)<(m:Int))=false:=zF (by omega);have t2:decide (kk<m)=false:=zF hlt;have HTE:=zh (show (mem v).take kk=mem v from List.take_of_length_le (by have:=HMM.out;rw [HMEM.out,List.length_map,HTL.out];omega));rw [HTE.out] at hown;have HLN:=zh (show (lk++bi (mem v)).length≤2000000000100 by
      have h1:=HLK.out;have h2:=qbN (mem v);rw [List.length_append];have:=HMM.out;have e:(mem v).length=m:=by rw [HMEM.out,List.length_map,HTL.out]
      omega)
     have hbw:w.heap.size+1≤wr.heap.size:=by have:=HE.out.size;have:=HS0.out;omega
     generalize lk++bi (mem v)=zs at *;have HSRT:=zh (qbp zs);rcases Nat.eq_zero_or_pos zs.length with h0 | h0
     ·obtain rfl:zs=[]:=List.eq_nil_of_length_eq_zero h0;have HO:=zh hown;obtain ⟨Z,zc,rfl, -⟩:=Rd.of_own hown;rw [show (aD []).length=0 from rfl] at HO ⊢;clear hown h0;go_wp2_with fail;refine (qag _ _ _).mono ?_;rintro e w5 ⟨rfl,rfl⟩;go_wp2_with fail;refine (qac _ _ _).mono ?_;rintro e w6 ⟨rfl,rfl⟩;go_wp2_with fail;go_ret;exact ⟨_,[],rfl,dw HO.out (Nat.le_succ _),List.Pairwise.nil,fun n=>(qa2 [] n).symm.trans (HBD2.out n),HB.out⟩
     ·obtain ⟨gg,cap,rfl,hgg,hgl⟩:=hown.form h0;have hms:(zs.mergeSort fun x y=>decide (x≤y)).length=zs.length:=(List.mergeSort_perm zs _).length_eq;have HSO:=zh (qb5 zs wr hbw hown (by have:=HLN.out;omega));have HCO:=zh (fun (u:World) (hu:w.heap.size+1≤u.heap.size) (h:u.ownsRow (w.heap.size+1) 9 1 (.slice (some ⟨gg,0,none⟩) zs.length cap) zs.length (aD (zs.mergeSort fun x y=>decide (x≤y))))=>(show Calls Tryz.prog 28 #[.slice (some ⟨gg,0,none⟩) zs.length cap] u (fun e w'=>e = .returned (.slice (some ⟨gg,0,none⟩) (cL zs).length cap)∧w'.ownsRow (w.heap.size+1) 9 1 (.slice (some ⟨gg,0,none⟩) (cL zs).length cap) (cL zs).length (aD (cL zs))∧Below (w.heap.size+1) u w') from by
       rw [←hms] at h ⊢;exact qb8 (zs.mergeSort fun x y=>decide (x≤y)) u hu h (by rw [hms];have:=HLN.out;omega)))
      generalize (zs.mergeSort fun x y=>decide (x≤y))=zz at *;generalize cL zs=ns at *;generalize zs.length=zl at *;clear hown hgg hgl h0 hms;go_wp2_with fail;refine HSO.out.mono ?_;rintro e w5 ⟨rfl,ho5,hb5⟩;have HE5:=zh (HE.out.trans hb5);have HC5:=zh (HCO.out w5 (by have:=HE5.out.size;have:=HS0.out;omega) ho5);clear ho5 hb5;go_wp2_with fail;refine HC5.out.mono ?_;rintro e w6 ⟨rfl,ho6,hb6⟩;have HO6:=zh (dw ho6 (Nat.le_succ _));have HB6:=zh (HB0.out.trans ((HE5.out.trans hb6).mono (Nat.le_succ _)));clear ho6 hb6;go_wp2_with fail;go_ret;exact ⟨_,ns,rfl,HO6.out,HSRT.out,HBD2.out,HB6.out⟩
 ·have HBD:=zh (HNO.out hk);have t1:(k != 6)=true:=bne_iff_ne.2 hk;have t2:(k==6)=false:=beq_eq_false_iff_ne.2 hk;clear HNO HYS;go_enter Tryz.func11,Tryz.ntmps11;have q:=HR0.out;rw [HW0.out] at q;obtain ⟨⟨p0,p1,p2,p3,p4⟩, -⟩:=ag q;clear q;go_wp2_with fail;rw [←HW0.out];go_ret;obtain ⟨x,hx1,hx2,hx3⟩:=qhv (w:=W0) (E:=9) (xs:=[.string ⟨#[110,97,109,101]⟩]) (cs:= #[.string ⟨#[110,97,109,101]⟩]) (k:=1) rfl rfl (by decide);refine ⟨x,[ah],?_,dw hx2 HB0.out.size,List.pairwise_singleton _ _,HBD.out,HB0.out.trans (hx3.mono HB0.out.size)⟩;rw [←hx1,HS0.out];rfl
