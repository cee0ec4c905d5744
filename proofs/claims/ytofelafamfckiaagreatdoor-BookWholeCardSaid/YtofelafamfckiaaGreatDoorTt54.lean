/- Merged: BkP. -/
import Derived.Test.YtofelafamfckiaaGreatDoorTt51
import Derived.Test.YtofelafamfckiaaGreatDoorTt49
set_option maxRecDepth 100000
set_option maxHeartbeats 4000000
namespace Go.Proofs.YtofelafamfckiaaGreatDoor
namespace Bk
open Go.Proofs Go.RowKit Go.Lib Utf Sc Re Tr Po
open Cd (mem fst dh qcI tN tM cF qaP qbe qbG qbF qae qah)
def qcT (m:List UInt8×V):Bool:= !aP m.1 m.2
def bc (l:List (List UInt8×V)):List (List UInt8):=(l.filter qcT).map Prod.fst
theorem qdB (l:List (List UInt8×V)) (m:List UInt8×V):bc (l++[m])=bc l++(if qcT m=true then [m.1] else []):=by
 unfold bc;rw [List.filter_append,List.map_append]
 congr 1
 by_cases h:qcT m=true
 ·rw [List.filter_cons,if_pos h,if_pos h];rfl
 ·rw [List.filter_cons,if_neg h,if_neg h];rfl
theorem qbn (l:List (List UInt8×V)):(bc l).length≤l.length:=by
 unfold bc;rw [List.length_map];exact List.length_filter_le _ _
def lkS (v:V):List (List UInt8):=if ay∈inN v then [] else [ay]
theorem qkC {v:V} (hk:v.k=6) (n:List UInt8):n∈lkS v++bc (mem v)↔bQ v n=true:=by
 have hi:inN v=v.ns:=by unfold inN;rw [if_pos hk]
 rw [qaV hk,List.mem_append];unfold lkS bc;rw [hi];simp only [List.mem_map,List.mem_filter];constructor
 ·rintro (h | ⟨m,⟨h1,h2⟩,rfl⟩)
  ·split at h
   ·cases h
   ·rename_i hx
    rw [List.mem_singleton] at h;exact .inr ⟨h,hx⟩
  ·exact .inl ⟨m,h1,rfl,by unfold qcT at h2;simpa using h2⟩
 ·rintro (⟨m,h1,rfl,h2⟩ | ⟨rfl,hx⟩)
  ·exact .inr ⟨m,⟨h1,by unfold qcT;rw [h2];rfl⟩,rfl⟩
  ·exact .inl (by rw [if_neg hx];simp)
theorem qkK (v:V):(lkS v).length≤1:=by unfold lkS;split <;> simp
theorem cV {w:World} {b b' E z n:Nat} {v:Value} {xs:List Value} (h:w.ownsRow b E z v n xs) (hb:b'≤b):w.ownsRow b' E z v n xs:=
 ⟨h.1,h.2.imp id fun ⟨g,cap,cur,h1,h2,h3⟩=>⟨g,cap,cur,h1,Nat.le_trans hb h2,h3⟩⟩
theorem qf2 (w:World) (E:TypeId) (cs:Array Value) (n:Nat) (hn:w.heap.size=n):∀ j u,cs.toList[j]? = some u→(w.alloc (.cells cs E)).cell? ((⟨n,0,none⟩:Addr).add j)=some u:=by
 subst hn;exact ba w E cs
theorem qc7 (a b:List (List UInt8)):aI (a++b)=aI a++aI b:=by unfold aI;rw [List.map_append]
theorem qfn (nm:List UInt8) (v:V) (cs:List Value) (W:World) {w:World} {lo hi:Nat} (hv:RdA w lo hi v cs):Calls Tryz.prog 26 #[.agg (.string (ae nm)::cs).toArray] W (qdo (.bool (aP nm v)) W):=by
 obtain ⟨A,c,A2,c2,rfl, -⟩:=hv.cells;exact qhX nm v A A2 c c2 W
theorem cG (v:V) (cs:List Value) (w:World) (hv:RdA w 0 w.heap.size v cs) (hz:szA 140737488355328 v):Calls Tryz.prog 11 #[.agg cs.toArray] w (qgA v w):=by
 have sv:szA 4611686018427387904 v:=Em.qbm (by decide) _ hz;obtain ⟨i1,hj,hy0,hy1,hy2⟩:=info_parts Wo.qma;have HGT:=zh (fun (W:World) (hW:Below w.heap.size w W)=>(qfU w.heap.size v cs ay W hW.size (RdA.keep (fun p _ hp=>hW.cell (p:=p) hp) (Nat.le_refl _) (Nat.le_refl _) _ _ hv) sv).mono (fun e w' h=>qd0 hW h));rw [show ae ay=(⟨#[110,97,109,101]⟩:ByteArray) from rfl] at HGT;obtain ⟨A0,c0,A20,c20,T,ecs,t1,t2,t3,t4,t5,t6⟩:=dh hv;have hT:T.length*96≤140737488355328:=by rw [t1];exact ((bL _ v).1 hz).2.2.2.2.1
 have hmem:=qcI t2 t3;subst ecs;clear hv hz sv;have HNO:=zh (show v.k≠6→∀ n,n∈[ay]↔bQ v n=true from fun hk n=>by rw [qgT hk,List.mem_singleton]);have HYS:=zh (show v.k=6→∀ n,n∈cF (lkS v++bc (mem v))↔bQ v n=true from fun hk n=>by rw [qaP];exact qkC hk n);obtain ⟨k,hk⟩:∃ x,v.k=x:=⟨_,rfl⟩
 rw [hk] at HGT HNO HYS ⊢;obtain ⟨n,hn⟩:∃ x,v.n=x:=⟨_,rfl⟩
 obtain ⟨S,hS⟩:∃ x,ae v.s=x:=⟨_,rfl⟩
 obtain ⟨l,hl⟩:∃ x,v.l.length=x:=⟨_,rfl⟩
 obtain ⟨m,hm⟩:∃ x,T.length=x:=⟨_,rfl⟩
 rw [hn,hS,hl,hm] at HGT ⊢;rw [hm] at hT;have HTL:=zh hm;have HRAW:=zh t4;have HRD:=zh t5;have HMEM:=zh hmem;have HMM:=zh (show m≤2000000000000 by omega);have HLK:=zh (qkK v);have HLD:=zh (show lkS v=if ay∈inN v then [] else [ay] from rfl);obtain ⟨q,hq⟩:∃ q,decide (ay∈inN v)=q:=⟨_,rfl⟩
 have HQ:=zh hq;rw [hq] at HGT;obtain ⟨W0,hW0⟩:∃ W0,W0=w.alloc (.cells #[.int .i64 k,.int .i64 n,.string S,.slice A0 l c0,.slice A20 m c20] 25):=⟨_,rfl⟩
 have HB0:=zh (show Below w.heap.size w W0 by rw [hW0];exact (Below.refl _ _).alloc (Nat.le_refl _) _);have HS0:=zh (show W0.heap.size=w.heap.size+1 by rw [hW0,aG]);have HR0:=zh (show W0.heap[w.heap.size]? = some (.cells #[.int .i64 k,.int .i64 n,.string S,.slice A0 l c0,.slice A20 m c20] 25 (0,0)) by rw [hW0];exact am _ _);have HW0:=zh hW0;clear hW0 hk hn hS hl hm t1 t2 t3 t4 t5 t6 hT hmem hq;by_cases hk:k=6
 ·have HBD:=zh (HYS.out hk);subst hk;clear HNO HYS;obtain ⟨lk,hlk⟩:∃ x,lkS v=x:=⟨_,rfl⟩
  rw [hlk] at HBD HLK HLD;have HBD2:=HBD;clear hlk HBD;go_enter Tryz.func11,Tryz.ntmps11;have q:=HR0.out;rw [HW0.out] at q;obtain ⟨⟨p0,p1,p2,p3,p4⟩, -⟩:=ai q;clear q;go_wp2_with fail;rw [←HW0.out];refine (HGT.out _ HB0.out).mono ?_;rintro e w1 ⟨⟨yk,yn,ys,yA,yl,yc,yB,yq,yd,rfl, -⟩,hb⟩;have HE1:=zh (show Below (w.heap.size+1) W0 w1 from hb.mono (Nat.le_of_eq HS0.out.symm));have hr1:=(hb.block w.heap.size (by rw [HS0.out];exact Nat.lt_succ_self _)).trans HR0.out;clear hb p0 p1 p2 p3 p4;obtain ⟨W2,hW2⟩:∃ W2,W2=w1.alloc (.cells #[.int .i64 yk,.int .i64 yn,.string ys,.slice yA yl yc,.slice yB yq yd] 25):=⟨_,rfl⟩
  have HE2:=zh (show Below (w.heap.size+1) W0 W2 by rw [hW2];exact HE1.out.alloc (by have:=HE1.out.size;have:=HS0.out;omega) _);have hr2:W2.heap[w.heap.size]? = some (.cells #[.int .i64 6,.int .i64 n,.string S,.slice A0 l c0,.slice A20 m c20] 25 (0,0)):=by rw [hW2];exact b7 hr1 _
  have HR2:=zh hr2;rw [hW2] at hr2;obtain ⟨⟨p0,p1,p2,p3,p4⟩, -⟩:=ai hr2;clear hr1 hr2;have HW2:=zh hW2;clear hW2;cases q with
  | true=>
   have HLE:=zh (show lk=[] by rw [HLD.out,if_pos (of_decide_eq_true HQ.out)]);have HOL:=zh (show W2.ownsRow (w.heap.size+1) 9 1 (.slice none 0 0) lk.length (aI lk) by rw [HLE.out];exact World.ownsRow_nil _ _ _ _);have HEL:=HE2;have HW:=HW2;clear HLD HLE HQ HGT;go_wp2_with fail;rw [←HW.out];clear p0 p1 p2 p3 p4;go_loopw [3,25] (fun s i wr=>∃ q:Nat,i = .int .i64 (q:Int)∧q≤m∧Aside (wr.ownsRow (w.heap.size+1) 9 1 s (lk++bc ((mem v).take q)).length (aI (lk++bc ((mem v).take q))))∧Aside (Below (w.heap.size+1) W0 wr)) (fun _ i _=>m-(RowKit.intOf i).toNat)
   case atStart=>exact ⟨0,rfl,by omega,(show World.ownsRow _ _ _ _ _ _ _ by rw [List.take_zero,show bc []=[] from rfl,List.append_nil];exact HOL.out),(show Below _ _ _ from HEL.out)⟩
   case round=>
    obtain ⟨kk,rfl,hk,hrow,hbel⟩:=hrel;have hown:=hrow.out;have HE:=zh hbel.out;have HB:=zh (HB0.out.trans (hbel.out.mono (Nat.le_succ _)));clear hrow hbel;have hm9:m≤2000000000000:=HMM.out;by_cases hlt:kk<m
    ·have t1:decide ((kk:Int)<(m:Int))=true:=zT (by omega);have t2:decide (kk<m)=true:=zT hlt;have k0:(0:Int)≤(kk:Int):=by omega
     have k1:(kk:Int)<(m:Int):=by omega
     have k2:((kk:Int)).toNat=kk:=by omega
     have hkT:kk<T.length:=by rw [HTL.out];exact hlt
     obtain ⟨g,o,rfl,hg,hr⟩:=HRAW.out (by rw [List.length_map];omega);have h6:=(hr kk (by rw [List.length_map];exact hkT)).keep fun j=>HB.out.cell (p:=⟨g,j,none⟩) hg;rw [List.getElem_map] at h6;have hrd:=HRD.out _ (List.getElem_mem hkT);have htk:(mem v).take (kk+1)=(mem v).take kk++[(T[kk].1.nm,T[kk].2)]:=by
      rw [HMEM.out,List.take_succ_eq_append_getElem (by rw [List.length_map];exact hkT),List.getElem_map]
     obtain ⟨y,hy⟩:∃ y,T[kk].2=y:=⟨_,rfl⟩
     obtain ⟨x,hx⟩:∃ x,T[kk].1=x:=⟨_,rfl⟩
     rw [hx,hy] at hrd htk;rw [hx] at h6;obtain ⟨xm,xk,xn,xs,xA,xl,xc,xB,xq,xd⟩:=x;obtain ⟨a0,a1,a2,a3,a4,a5⟩:=h6;simp only at hrd htk a0 a1 a2 a3 a4 a5;have HMY:=zh (fun (W:World)=>qfn xm y _ W hrd);simp only [qbR] at HMY;have HTK:=zh (show lk++bc ((mem v).take (kk+1))=lk++(bc ((mem v).take kk)++(if qcT (xm,y)=true then [xm] else [])) by rw [htk,qdB]);have HLN0:=zh (show (lk++bc ((mem v).take kk)).length≤2000000000100 by
      have h1:=HLK.out;have h2:=qbn ((mem v).take kk);rw [List.length_take] at h2;rw [List.length_append];have:=HMM.out;omega)
     obtain ⟨b,hb⟩:∃ b,aP xm y=b:=⟨_,rfl⟩
     have HOF:=zh (show qcT (xm,y) = !b by unfold qcT;rw [hb]);rw [hb] at HMY;rw [HOF.out] at HTK;obtain ⟨X,hX⟩:∃ X,ae xm=X:=⟨_,rfl⟩
     have HXX:=zh hX;rw [hX] at HMY a0;clear hr hrd hx hy hkT htk hb hX HOF hg;obtain ⟨W4,hW4⟩:∃ W4,W4=wr.alloc (.cells #[.string X,.int .i64 xk,.int .i64 xn,.string xs,.slice xA xl xc,.slice xB xq xd] 37):=⟨_,rfl⟩
     have HE4:=zh (show Below (w.heap.size+1) W0 W4 by rw [hW4];exact HE.out.alloc (by have:=HE.out.size;have:=HS0.out;omega) _);have HO4:=zh (show W4.ownsRow (w.heap.size+1) 9 1 u3 (lk++bc ((mem v).take kk)).length (aI (lk++bc ((mem v).take kk))) by rw [hW4];exact hown.alloc _);have HM4:=zh (show W4.heap[wr.heap.size]? = some (.cells #[.string X,.int .i64 xk,.int .i64 xn,.string xs,.slice xA xl xc,.slice xB xq xd] 37 (0,0)) by rw [hW4];exact am _ _);have HS4:=zh (show wr.heap.size<W4.heap.size by rw [hW4,aG];exact Nat.lt_succ_self _);obtain ⟨y0,y1,y2,y3,y4,y5⟩:=qdc (am wr (.cells #[.string X,.int .i64 xk,.int .i64 xn,.string xs,.slice xA xl xc,.slice xB xq xd] 37));have HW4:=zh hW4;clear hW4 hown;have HCC:=zh (HMY.out W4);clear HMY;cases b with
     | false=>
      have OFF:(!false)=true:=rfl;go_wp2_with fail;rw [←HW4.out];refine HCC.out.mono ?_;rintro e w5 ⟨rfl,hb5⟩;have HE5:=zh (HE4.out.trans (hb5.mono (by have:=HE4.out.size;have:=HS0.out;omega)));have hown5:=aQ HO4.out hb5;obtain ⟨y0,y1,y2,y3,y4,y5⟩:=qdc ((hb5.block wr.heap.size HS4.out).trans HM4.out);clear hb5 HCC;have HTK2:=zh (show lk++bc ((mem v).take (kk+1))=(lk++bc ((mem v).take kk))++[xm] by rw [HTK.out,OFF,if_pos rfl,List.append_assoc]);have HBB:=zh (show w.heap.size+1≤w5.heap.size by have:=HE5.out.size;have:=HS0.out;omega);generalize lk++bc ((mem v).take kk)=ps at *;have HO5:=hown5;clear OFF hown5;go_wp2_with (at_builtin;refine wpList_append_lies _ rfl _ _ 29 rfl (w.heap.size+1) 9 i1 _ 1 16 Tryz.underlying29 hj hy0 hy1 hy2 (by rfl) (by decide) u3 ps.length (aI ps) rfl (HO5.alloc _) ⟨w5.heap.size,0,none⟩ 1 1 [.string X] rfl rfl (ba _ _ _) ?_ ?_ ?_ ?_ ?_ _ rfl ?_;(intro u hu;simp at hu;subst hu;rfl);omega;(have:=HLN0.out;unfold maxLen;omega);(have:=HLN0.out;omega);(have:=HBB.out;rw [aG];omega);intro gg cap w6 hown6 hg6 hat hgl)
      have HO6:=zh (show w6.ownsRow (w.heap.size+1) 9 1 (.slice (some ⟨gg,0,none⟩) (ps.length+1) cap) (lk++bc ((mem v).take (kk+1))).length (aI (lk++bc ((mem v).take (kk+1)))) by
       rw [HTK2.out,List.length_append,qc7];have e:aI [xm]=[.string X]:=by rw [←HXX.out];rfl
       rw [e];exact hown6)
      have HE6:=zh (show Below (w.heap.size+1) W0 w6 from (HE5.out.alloc HBB.out _).grown hg6 (by have:=HBB.out;rw [aG];omega) (fun k hk=>(HO5.lt k hk).1));clear hown6 hg6 hat hgl HO5;go_wp2_with fail;go_roundw
      case rel=>exact ⟨kk+1,by go_num,by omega,HO6.out,HE6.out⟩
      case measure=>simp [RowKit.intOf];omega
     | true=>
      have OFF:(!true)=false:=rfl;go_wp2_with fail;rw [←HW4.out];refine HCC.out.mono ?_;rintro e w5 ⟨rfl,hb5⟩;have HE5:=zh (HE4.out.trans (hb5.mono (by have:=HE4.out.size;have:=HS0.out;omega)));have hown5:=aQ HO4.out hb5;obtain ⟨y0,y1,y2,y3,y4,y5⟩:=qdc ((hb5.block wr.heap.size HS4.out).trans HM4.out);clear hb5 HCC;have HO5:=zh (show w5.ownsRow (w.heap.size+1) 9 1 u3 (lk++bc ((mem v).take (kk+1))).length (aI (lk++bc ((mem v).take (kk+1)))) by
       rw [HTK.out,OFF,if_neg Bool.false_ne_true,List.append_nil];exact hown5)
      clear hown5 OFF;go_wp2_with fail;go_roundw
      case rel=>exact ⟨kk+1,by go_num,by omega,HO5.out,HE5.out⟩
      case measure=>simp [RowKit.intOf];omega
    ·have t1:decide ((kk:Int)<(m:Int))=false:=zF (by omega);have t2:decide (kk<m)=false:=zF hlt;have HTE:=zh (show (mem v).take kk=mem v from List.take_of_length_le (by have:=HMM.out;rw [HMEM.out,List.length_map,HTL.out];omega));rw [HTE.out] at hown;have HLN:=zh (show (lk++bc (mem v)).length≤2000000000100 by
      have h1:=HLK.out;have h2:=qbn (mem v);rw [List.length_append];have:=HMM.out;have e:(mem v).length=m:=by rw [HMEM.out,List.length_map,HTL.out]
      omega)
     have hbw:w.heap.size+1≤wr.heap.size:=by have:=HE.out.size;have:=HS0.out;omega
     generalize lk++bc (mem v)=zs at *;have HSRT:=zh (qbe zs);rcases Nat.eq_zero_or_pos zs.length with h0 | h0
     ·obtain rfl:zs=[]:=List.eq_nil_of_length_eq_zero h0;have HO:=zh hown;obtain ⟨Z,zc,rfl, -⟩:=Rd.of_own hown;rw [show (aI []).length=0 from rfl] at HO ⊢;clear hown h0;go_wp2_with fail;refine (qae _ _ _).mono ?_;rintro e w5 ⟨rfl,rfl⟩;go_wp2_with fail;refine (qah _ _ _).mono ?_;rintro e w6 ⟨rfl,rfl⟩;go_wp2_with fail;go_ret;exact ⟨_,[],rfl,cV HO.out (Nat.le_succ _),List.Pairwise.nil,fun n=>(qaP [] n).symm.trans (HBD2.out n),HB.out⟩
     ·obtain ⟨gg,cap,rfl,hgg,hgl⟩:=hown.form h0;have hms:(zs.mergeSort fun x y=>decide (x≤y)).length=zs.length:=(List.mergeSort_perm zs _).length_eq;have HSO:=zh (qbG zs wr hbw hown (by have:=HLN.out;omega));have HCO:=zh (fun (u:World) (hu:w.heap.size+1≤u.heap.size) (h:u.ownsRow (w.heap.size+1) 9 1 (.slice (some ⟨gg,0,none⟩) zs.length cap) zs.length (aI (zs.mergeSort fun x y=>decide (x≤y))))=>(show Calls Tryz.prog 28 #[.slice (some ⟨gg,0,none⟩) zs.length cap] u (fun e w'=>e = .returned (.slice (some ⟨gg,0,none⟩) (cF zs).length cap)∧w'.ownsRow (w.heap.size+1) 9 1 (.slice (some ⟨gg,0,none⟩) (cF zs).length cap) (cF zs).length (aI (cF zs))∧Below (w.heap.size+1) u w') from by
       rw [←hms] at h ⊢;exact qbF (zs.mergeSort fun x y=>decide (x≤y)) u hu h (by rw [hms];have:=HLN.out;omega)))
      generalize (zs.mergeSort fun x y=>decide (x≤y))=zz at *;generalize cF zs=ns at *;generalize zs.length=zl at *;clear hown hgg hgl h0 hms;go_wp2_with fail;refine HSO.out.mono ?_;rintro e w5 ⟨rfl,ho5,hb5⟩;have HE5:=zh (HE.out.trans hb5);have HC5:=zh (HCO.out w5 (by have:=HE5.out.size;have:=HS0.out;omega) ho5);clear ho5 hb5;go_wp2_with fail;refine HC5.out.mono ?_;rintro e w6 ⟨rfl,ho6,hb6⟩;have HO6:=zh (cV ho6 (Nat.le_succ _));have HB6:=zh (HB0.out.trans ((HE5.out.trans hb6).mono (Nat.le_succ _)));clear ho6 hb6;go_wp2_with fail;go_ret;exact ⟨_,ns,rfl,HO6.out,HSRT.out,HBD2.out,HB6.out⟩
  | false=>
   have HLE:=zh (show lk=[ay] by rw [HLD.out,if_neg (of_decide_eq_false HQ.out)]);have hs2:w.heap.size+1≤W2.heap.size:=by have:=HE2.out.size;have:=HS0.out;omega
   have hown0:(w1.alloc (.cells #[.int .i64 yk,.int .i64 yn,.string ys,.slice yA yl yc,.slice yB yq yd] 25)).ownsRow (w.heap.size+1) 9 1 (.slice none 0 0) ([]:List (List UInt8)).length (aI []):=World.ownsRow_nil _ _ _ _;have HSZ:=zh (show w.heap.size+1≤(w1.alloc (.cells #[.int .i64 yk,.int .i64 yn,.string ys,.slice yA yl yc,.slice yB yq yd] 25)).heap.size by rw [←HW2.out];exact hs2);have HNB:=zh (show ([]:List (List UInt8)).length≤2000000000100 by simp);clear HLD HQ HGT hs2;go_wp2_with (at_builtin;refine wpList_append_lies _ rfl _ _ 29 rfl (w.heap.size+1) 9 i1 _ 1 16 Tryz.underlying29 hj hy0 hy1 hy2 (by rfl) (by decide) (.slice none 0 0) ([]:List (List UInt8)).length (aI ([]:List (List UInt8))) rfl (hown0.alloc _) ⟨w1.heap.size+1,0,none⟩ 1 1 [.string ⟨#[110,97,109,101]⟩] rfl rfl (qf2 _ _ _ _ (by rw [aG])) ?_ ?_ ?_ ?_ ?_ _ rfl ?_;(intro u hu;simp at hu;subst hu;rfl);omega;(have:=HNB.out;unfold maxLen;omega);(have:=HNB.out;omega);(have:=HSZ.out;rw [aG];omega);intro gg cap W3 hown3 hg3 hat hgl;have HEL:=zh (show Below (w.heap.size+1) W0 W3 from ((HW2.out▸HE2.out).alloc HSZ.out _).grown hg3 (by have:=HSZ.out;rw [aG];omega) (fun k hk=>(hown0.lt k hk).1));have hr3:=(HEL.out.block w.heap.size (Nat.lt_succ_self _)).trans HR0.out;obtain ⟨⟨e0,e1,e2,e3,e4⟩, -⟩:=ai hr3)
   have HOL:=zh (show W3.ownsRow (w.heap.size+1) 9 1 (.slice (some ⟨gg,0,none⟩) (([]:List (List UInt8)).length+1) cap) lk.length (aI lk) by rw [HLE.out];exact hown3);clear hown3 hg3 hat hgl hown0 HLE p0 p1 p2 p3 p4 hr3;clear e0 e1 e2 e3 e4;go_loopw [3,25] (fun s i wr=>∃ q:Nat,i = .int .i64 (q:Int)∧q≤m∧Aside (wr.ownsRow (w.heap.size+1) 9 1 s (lk++bc ((mem v).take q)).length (aI (lk++bc ((mem v).take q))))∧Aside (Below (w.heap.size+1) W0 wr)) (fun _ i _=>m-(RowKit.intOf i).toNat)
   case atStart=>exact ⟨0,rfl,by omega,(show World.ownsRow _ _ _ _ _ _ _ by rw [List.take_zero,show bc []=[] from rfl,List.append_nil];exact HOL.out),(show Below _ _ _ from HEL.out)⟩
   case round=>
    obtain ⟨kk,rfl,hk,hrow,hbel⟩:=hrel;have hown:=hrow.out;have HE:=zh hbel.out;have HB:=zh (HB0.out.trans (hbel.out.mono (Nat.le_succ _)));clear hrow hbel;have hm9:m≤2000000000000:=HMM.out;by_cases hlt:kk<m
    ·have t1:decide ((kk:Int)<(m:Int))=true:=zT (by omega);have t2:decide (kk<m)=true:=zT hlt;have k0:(0:Int)≤(kk:Int):=by omega
     have k1:(kk:Int)<(m:Int):=by omega
     have k2:((kk:Int)).toNat=kk:=by omega
     have hkT:kk<T.length:=by rw [HTL.out];exact hlt
     obtain ⟨g,o,rfl,hg,hr⟩:=HRAW.out (by rw [List.length_map];omega);have h6:=(hr kk (by rw [List.length_map];exact hkT)).keep fun j=>HB.out.cell (p:=⟨g,j,none⟩) hg;rw [List.getElem_map] at h6;have hrd:=HRD.out _ (List.getElem_mem hkT);have htk:(mem v).take (kk+1)=(mem v).take kk++[(T[kk].1.nm,T[kk].2)]:=by
      rw [HMEM.out,List.take_succ_eq_append_getElem (by rw [List.length_map];exact hkT),List.getElem_map]
     obtain ⟨y,hy⟩:∃ y,T[kk].2=y:=⟨_,rfl⟩
     obtain ⟨x,hx⟩:∃ x,T[kk].1=x:=⟨_,rfl⟩
     rw [hx,hy] at hrd htk;rw [hx] at h6;obtain ⟨xm,xk,xn,xs,xA,xl,xc,xB,xq,xd⟩:=x;obtain ⟨a0,a1,a2,a3,a4,a5⟩:=h6;simp only at hrd htk a0 a1 a2 a3 a4 a5;have HMY:=zh (fun (W:World)=>qfn xm y _ W hrd);simp only [qbR] at HMY;have HTK:=zh (show lk++bc ((mem v).take (kk+1))=lk++(bc ((mem v).take kk)++(if qcT (xm,y)=true then [xm] else [])) by rw [htk,qdB]);have HLN0:=zh (show (lk++bc ((mem v).take kk)).length≤2000000000100 by
      have h1:=HLK.out;have h2:=qbn ((mem v).take kk);rw [List.length_take] at h2;rw [List.length_append];have:=HMM.out;omega)
     obtain ⟨b,hb⟩:∃ b,aP xm y=b:=⟨_,rfl⟩
     have HOF:=zh (show qcT (xm,y) = !b by unfold qcT;rw [hb]);rw [hb] at HMY;rw [HOF.out] at HTK;obtain ⟨X,hX⟩:∃ X,ae xm=X:=⟨_,rfl⟩
     have HXX:=zh hX;rw [hX] at HMY a0;clear hr hrd hx hy hkT htk hb hX HOF hg;obtain ⟨W4,hW4⟩:∃ W4,W4=wr.alloc (.cells #[.string X,.int .i64 xk,.int .i64 xn,.string xs,.slice xA xl xc,.slice xB xq xd] 37):=⟨_,rfl⟩
     have HE4:=zh (show Below (w.heap.size+1) W0 W4 by rw [hW4];exact HE.out.alloc (by have:=HE.out.size;have:=HS0.out;omega) _);have HO4:=zh (show W4.ownsRow (w.heap.size+1) 9 1 u3 (lk++bc ((mem v).take kk)).length (aI (lk++bc ((mem v).take kk))) by rw [hW4];exact hown.alloc _);have HM4:=zh (show W4.heap[wr.heap.size]? = some (.cells #[.string X,.int .i64 xk,.int .i64 xn,.string xs,.slice xA xl xc,.slice xB xq xd] 37 (0,0)) by rw [hW4];exact am _ _);have HS4:=zh (show wr.heap.size<W4.heap.size by rw [hW4,aG];exact Nat.lt_succ_self _);obtain ⟨y0,y1,y2,y3,y4,y5⟩:=qdc (am wr (.cells #[.string X,.int .i64 xk,.int .i64 xn,.string xs,.slice xA xl xc,.slice xB xq xd] 37));have HW4:=zh hW4;clear hW4 hown;have HCC:=zh (HMY.out W4);clear HMY;cases b with
     | false=>
      have OFF:(!false)=true:=rfl;go_wp2_with fail;rw [←HW4.out];refine HCC.out.mono ?_;rintro e w5 ⟨rfl,hb5⟩;have HE5:=zh (HE4.out.trans (hb5.mono (by have:=HE4.out.size;have:=HS0.out;omega)));have hown5:=aQ HO4.out hb5;obtain ⟨y0,y1,y2,y3,y4,y5⟩:=qdc ((hb5.block wr.heap.size HS4.out).trans HM4.out);clear hb5 HCC;have HTK2:=zh (show lk++bc ((mem v).take (kk+1))=(lk++bc ((mem v).take kk))++[xm] by rw [HTK.out,OFF,if_pos rfl,List.append_assoc]);have HBB:=zh (show w.heap.size+1≤w5.heap.size by have:=HE5.out.size;have:=HS0.out;omega);generalize lk++bc ((mem v).take kk)=ps at *;have HO5:=hown5;clear OFF hown5;go_wp2_with (at_builtin;refine wpList_append_lies _ rfl _ _ 29 rfl (w.heap.size+1) 9 i1 _ 1 16 Tryz.underlying29 hj hy0 hy1 hy2 (by rfl) (by decide) u3 ps.length (aI ps) rfl (HO5.alloc _) ⟨w5.heap.size,0,none⟩ 1 1 [.string X] rfl rfl (ba _ _ _) ?_ ?_ ?_ ?_ ?_ _ rfl ?_;(intro u hu;simp at hu;subst hu;rfl);omega;(have:=HLN0.out;unfold maxLen;omega);(have:=HLN0.out;omega);(have:=HBB.out;rw [aG];omega);intro gg cap w6 hown6 hg6 hat hgl)
      have HO6:=zh (show w6.ownsRow (w.heap.size+1) 9 1 (.slice (some ⟨gg,0,none⟩) (ps.length+1) cap) (lk++bc ((mem v).take (kk+1))).length (aI (lk++bc ((mem v).take (kk+1)))) by
       rw [HTK2.out,List.length_append,qc7];have e:aI [xm]=[.string X]:=by rw [←HXX.out];rfl
       rw [e];exact hown6)
      have HE6:=zh (show Below (w.heap.size+1) W0 w6 from (HE5.out.alloc HBB.out _).grown hg6 (by have:=HBB.out;rw [aG];omega) (fun k hk=>(HO5.lt k hk).1));clear hown6 hg6 hat hgl HO5;go_wp2_with fail;go_roundw
      case rel=>exact ⟨kk+1,by go_num,by omega,HO6.out,HE6.out⟩
      case measure=>simp [RowKit.intOf];omega
     | true=>
      have OFF:(!true)=false:=rfl;go_wp2_with fail;rw [←HW4.out];refine HCC.out.mono ?_;rintro e w5 ⟨rfl,hb5⟩;have HE5:=zh (HE4.out.trans (hb5.mono (by have:=HE4.out.size;have:=HS0.out;omega)));have hown5:=aQ HO4.out hb5;obtain ⟨y0,y1,y2,y3,y4,y5⟩:=qdc ((hb5.block wr.heap.size HS4.out).trans HM4.out);clear hb5 HCC;have HO5:=zh (show w5.ownsRow (w.heap.size+1) 9 1 u3 (lk++bc ((mem v).take (kk+1))).length (aI (lk++bc ((mem v).take (kk+1)))) by
       rw [HTK.out,OFF,if_neg Bool.false_ne_true,List.append_nil];exact hown5)
      clear hown5 OFF;go_wp2_with fail;go_roundw
      case rel=>exact ⟨kk+1,by go_num,by omega,HO5.out,HE5.out⟩
      case measure=>simp [RowKit.intOf];omega
    ·have t1:decide ((kk:Int)<(m:Int))=false:=zF (by omega);have t2:decide (kk<m)=false:=zF hlt;have HTE:=zh (show (mem v).take kk=mem v from List.take_of_length_le (by have:=HMM.out;rw [HMEM.out,List.length_map,HTL.out];omega));rw [HTE.out] at hown;have HLN:=zh (show (lk++bc (mem v)).length≤2000000000100 by
      have h1:=HLK.out;have h2:=qbn (mem v);rw [List.length_append];have:=HMM.out;have e:(mem v).length=m:=by rw [HMEM.out,List.length_map,HTL.out]
      omega)
     have hbw:w.heap.size+1≤wr.heap.size:=by have:=HE.out.size;have:=HS0.out;omega
     generalize lk++bc (mem v)=zs at *;have HSRT:=zh (qbe zs);rcases Nat.eq_zero_or_pos zs.length with h0 | h0
     ·obtain rfl:zs=[]:=List.eq_nil_of_length_eq_zero h0;have HO:=zh hown;obtain ⟨Z,zc,rfl, -⟩:=Rd.of_own hown;rw [show (aI []).length=0 from rfl] at HO ⊢;clear hown h0;go_wp2_with fail;refine (qae _ _ _).mono ?_;rintro e w5 ⟨rfl,rfl⟩;go_wp2_with fail;refine (qah _ _ _).mono ?_;rintro e w6 ⟨rfl,rfl⟩;go_wp2_with fail;go_ret;exact ⟨_,[],rfl,cV HO.out (Nat.le_succ _),List.Pairwise.nil,fun n=>(qaP [] n).symm.trans (HBD2.out n),HB.out⟩
     ·obtain ⟨gg,cap,rfl,hgg,hgl⟩:=hown.form h0;have hms:(zs.mergeSort fun x y=>decide (x≤y)).length=zs.length:=(List.mergeSort_perm zs _).length_eq;have HSO:=zh (qbG zs wr hbw hown (by have:=HLN.out;omega));have HCO:=zh (fun (u:World) (hu:w.heap.size+1≤u.heap.size) (h:u.ownsRow (w.heap.size+1) 9 1 (.slice (some ⟨gg,0,none⟩) zs.length cap) zs.length (aI (zs.mergeSort fun x y=>decide (x≤y))))=>(show Calls Tryz.prog 28 #[.slice (some ⟨gg,0,none⟩) zs.length cap] u (fun e w'=>e = .returned (.slice (some ⟨gg,0,none⟩) (cF zs).length cap)∧w'.ownsRow (w.heap.size+1) 9 1 (.slice (some ⟨gg,0,none⟩) (cF zs).length cap) (cF zs).length (aI (cF zs))∧Below (w.heap.size+1) u w') from by
       rw [←hms] at h ⊢;exact qbF (zs.mergeSort fun x y=>decide (x≤y)) u hu h (by rw [hms];have:=HLN.out;omega)))
      generalize (zs.mergeSort fun x y=>decide (x≤y))=zz at *;generalize cF zs=ns at *;generalize zs.length=zl at *;clear hown hgg hgl h0 hms;go_wp2_with fail;refine HSO.out.mono ?_;rintro e w5 ⟨rfl,ho5,hb5⟩;have HE5:=zh (HE.out.trans hb5);have HC5:=zh (HCO.out w5 (by have:=HE5.out.size;have:=HS0.out;omega) ho5);clear ho5 hb5;go_wp2_with fail;refine HC5.out.mono ?_;rintro e w6 ⟨rfl,ho6,hb6⟩;have HO6:=zh (cV ho6 (Nat.le_succ _));have HB6:=zh (HB0.out.trans ((HE5.out.trans hb6).mono (Nat.le_succ _)));clear ho6 hb6;go_wp2_with fail;go_ret;exact ⟨_,ns,rfl,HO6.out,HSRT.out,HBD2.out,HB6.out⟩
 ·have HBD:=zh (HNO.out hk);have t1:(k != 6)=true:=bne_iff_ne.2 hk;have t2:(k==6)=false:=beq_eq_false_iff_ne.2 hk;clear HNO HYS;go_enter Tryz.func11,Tryz.ntmps11;have q:=HR0.out;rw [HW0.out] at q;obtain ⟨⟨p0,p1,p2,p3,p4⟩, -⟩:=ai q;clear q;go_wp2_with fail;rw [←HW0.out];go_ret;obtain ⟨x,hx1,hx2,hx3⟩:=qhC (w:=W0) (E:=9) (xs:=[.string ⟨#[110,97,109,101]⟩]) (cs:= #[.string ⟨#[110,97,109,101]⟩]) (k:=1) rfl rfl (by decide);refine ⟨x,[ay],?_,cV hx2 HB0.out.size,List.pairwise_singleton _ _,HBD.out,HB0.out.trans (hx3.mono HB0.out.size)⟩;rw [←hx1,HS0.out];rfl
