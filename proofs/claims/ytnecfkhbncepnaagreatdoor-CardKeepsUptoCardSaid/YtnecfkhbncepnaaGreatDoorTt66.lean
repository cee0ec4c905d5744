/- Merged: CdR. -/
import Derived.Test.YtnecfkhbncepnaaGreatDoorTt61
import Derived.Test.YtnecfkhbncepnaaGreatDoorTt56
set_option maxRecDepth 100000
set_option maxHeartbeats 4000000
namespace Go.Proofs.YtnecfkhbncepnaaGreatDoor
namespace Cd
open Go.Proofs Go.RowKit Go.Lib Utf Sc Re Tr
open Sm (Pr RdP prV qiH af cX dF)
open Wo (Tl)
theorem qrZ (o:Option Pr):qiH o = .tuple #[prV (o.getD Pr.zero),.bool o.isSome]:=by
 cases o <;> rfl
theorem qdZ {N:List UInt8→V→V} {of:List UInt8} {m:List UInt8×V} (h:(m.1=cJ∧of≠dF)∨qaJ (qbV of m.1) m.2=true):bP N of m=none:=by unfold bP;rw [if_pos h]
theorem qfs {N:List UInt8→V→V} {of:List UInt8} {m:List UInt8×V} (h1:¬(m.1=cJ∧of≠dF)) (h2:qaJ (qbV of m.1) m.2=false):bP N of m=some (m.1,bQ N (qbV of m.1) m.2):=by
 unfold bP;rw [if_neg];rintro (h | h)
 ·exact h1 h
 ·exact Bool.noConfusion (h2.symm.trans h)
theorem qg7 {w w':World} {B E z n:Nat} {v:Value} {xs:List Value} (h:w.ownsRow B E z v n xs) (hk:∀ g,v.ownBlock=some g→w'.heap[g]? = w.heap[g]?):w'.ownsRow B E z v n xs:=by
 obtain ⟨h0,h⟩:=h;refine ⟨h0,?_⟩;rcases h with h | ⟨g,cap,cur,rfl,h1,h2,h3⟩
 ·exact .inl h
 ·exact .inr ⟨g,cap,cur,rfl,h1,(hk g rfl).trans h2,h3⟩
theorem qb8 {f:List UInt8×V→Option (List UInt8×V)} {l r:List (List UInt8×V)} {x:List UInt8×V} (h:r=l++[x]):r.filterMap f=l.filterMap f++(f x).toList:=by
 rw [h,List.filterMap_append];cases hf:f x with
 | none=>rw [List.filterMap_cons_none hf];rfl
 | some y=>rw [List.filterMap_cons_some hf];rfl
theorem qoG {h:Nat} (HL:LnC h):LnC (h+1):=by
 intro of v cs F w hh hv hnd hlt hz;have mixed:Tryz.prog.follows .mixedOrders=true:=by kernel_rfl
 obtain ⟨i0,hi,hz0,hz1,hz2⟩:=info_parts qeX;obtain ⟨A,c,A2,d,FL,FM,ecs,hnl,rfl,hFL,hFM⟩:=hv.cells;obtain ⟨-, -, -, -,z5, -, -,z8⟩:=(cI _ v).1 hz;have hnd':=hnd;rw [List.nodup_append] at hnd';obtain ⟨Gs,hgs,hit⟩:=qlq hFM hnl hnd'.2.1;have HGS:=zh hgs;have HFND:=zh (fun (P:Value) (X:ByteArray) (u:World) (hP:RdP u u.heap.size P (af of))=>qhd (af of) P X u hP (by
  obtain ⟨hp, -,hl, -⟩:=Sm.qcF of;rw [←hp.length_eq];omega))
 have HIT:=zh (show ∀ j,j<v.ms.length→∃ (g:Nat) (nm:List UInt8) (x:V) (xA:Option Addr) (xc:Nat) (xB:Option Addr) (xd:Nat) (Gj:List Nat),A2=some ⟨g,0,none⟩∧g∈FM∧g∉Gs.flatten∧(mem v).take (j+1)=(mem v).take j++[(nm,x)]∧
   am w g (j*6) [.string (aa nm),.int .i64 x.k,.int .i64 x.n,.string (aa x.s),.slice xA x.l.length xc,.slice xB x.ms.length xd]∧(∀ y∈Gj,y∈FM∧y∉(Gs.take j).flatten)∧(Gs.take (j+1)).flatten=(Gs.take j).flatten++Gj∧
   ∀ (p:Pr) (u:World),(∀ y∈Gj,u.heap[y]? = w.heap[y]?)→w.heap.size≤u.heap.size→Calls Tryz.prog 57 #[prV p,.agg #[.int .i64 x.k,.int .i64 x.n,.string (aa x.s),.slice xA x.l.length xc,.slice xB x.ms.length xd]] u (qdw (bQ aw p x) Gj u) from fun j hj=>by
  obtain ⟨g,nm,x,xs,Gj,a1,a2,a3,a4,a5,a6,a7,a8,a9,a10⟩:=hit j hj;obtain ⟨xA,xc,xB,xd,_,_,rfl, -⟩:=id a7.cells;exact ⟨g,nm,x,xA,xc,xB,xd,Gj,a1,a2,a3,a4,a6,a9,a10,fun p u hu hs=>qer HL p x _ Gj u (by have:=qdm a5;omega) (RdF.keep _ _ _ hu a7) a8 (fun y hy=>by have:=hlt y (List.mem_append_right _ (a9 y hy).1);omega) (aV z8 a5)⟩)
 have HV:=zh hv;have HND:=zh hnd;have HLT:=zh hlt;have HFL:=zh hFL;have HECS:=zh ecs;have HPR:=zh (fun (u:World)=>Sm.qbA (aa of) u);rw [aD] at HPR;have HOF:=zh (show (aa of).toList=of from ak of);obtain ⟨Y,hY⟩:∃ Y,aa of=Y:=⟨_,rfl⟩
 rw [hY] at HPR HOF ⊢;rw [ecs];obtain ⟨k,hk⟩:∃ x,v.k=x:=⟨_,rfl⟩
 obtain ⟨n,hn⟩:∃ x,v.n=x:=⟨_,rfl⟩
 obtain ⟨S,hS⟩:∃ x,aa v.s=x:=⟨_,rfl⟩
 obtain ⟨l,hl⟩:∃ x,v.l.length=x:=⟨_,rfl⟩
 obtain ⟨m,hm⟩:∃ x,v.ms.length=x:=⟨_,rfl⟩
 have HEQ:=zh (And.intro hk (And.intro hn (And.intro hS hl)));rw [hm] at z5 HIT;have HLEN:=zh (show (mem v).length=m by unfold mem;rw [List.length_zip];omega);rw [hk,hn,hS,hl,hm];clear hY hk hn hS hl hm ecs hh hv hnd hlt hz z8 hFL hFM hnl hnd' HL hgs hit;obtain ⟨Wa,hWa⟩:∃ Wa,Wa=w.alloc (.cells #[.int .i64 k,.int .i64 n,.string S,.slice A l c,.slice A2 m d] 25):=⟨_,rfl⟩
 obtain ⟨W0,hW0⟩:∃ W0,W0=Wa.alloc (.cells #[.int .i64 0,.int .i64 0,.string ⟨#[]⟩,.slice none 0 0,.slice none 0 0] 25):=⟨_,rfl⟩
 have sa:Wa.heap.size=w.heap.size+1:=by rw [hWa,aF]
 have HS0:=zh (show W0.heap.size=w.heap.size+2 by rw [hW0,aF,sa]);have ba:Below w.heap.size w Wa:=by rw [hWa];exact (Below.refl _ _).alloc (Nat.le_refl _) _
 have b0:Below Wa.heap.size Wa W0:=by rw [hW0];exact (Below.refl _ _).alloc (Nat.le_refl _) _
 have HB0:=zh (show Below w.heap.size w W0 from ba.trans (b0.mono ba.size));have HV0:=zh (show W0.heap[w.heap.size]? = some (.cells #[.int .i64 k,.int .i64 n,.string S,.slice A l c,.slice A2 m d] 25 (0,0)) from (b0.block _ (by omega)).trans (by rw [hWa];exact ag _ _));have HZ0:=zh (show W0.heap[w.heap.size+1]? = some (.cells #[.int .i64 0,.int .i64 0,.string ⟨#[]⟩,.slice none 0 0,.slice none 0 0] 25 (0,0)) by rw [hW0,←sa];exact ag _ _);have HW0:=zh (show W0=(w.alloc (.cells #[.int .i64 k,.int .i64 n,.string S,.slice A l c,.slice A2 m d] 25)).alloc (.cells #[.int .i64 0,.int .i64 0,.string ⟨#[]⟩,.slice none 0 0,.slice none 0 0] 25) by rw [hW0,hWa]);clear hWa hW0 sa ba b0;have k0:(0:Int)≤(m:Int):=by omega
 obtain ⟨MC,hMC⟩:∃ M,madeCells (Value.agg #[.string ByteArray.empty,.int .i64 0,.int .i64 0,.string ByteArray.empty,.slice none 0 0,.slice none 0 0]).cells (m*6)=M:=⟨_,rfl⟩
 have hmk:∀ W:World,(Instr.makeSlice 23 (.int .i64 0) (.int .i64 (m:Int))).run Tryz.prog W = .ok (.slice (some ⟨W.heap.size,0,none⟩) 0 m) (W.alloc (.cells MC 44)):=fun W=>by
  have:=run_make W 23 44 i0 _ Tryz.underlying23 hi hz0 .i64 .i64 0 (m:Int) (Int.le_refl _) k0 (by rw [hz2];omega) (by omega);rw [hz1] at this;rw [←hMC]
  simpa using this
 have HMS:=zh (show MC.size=m*6 by rw [←hMC];exact size_madeCells _ _);clear hMC;go_enter Tryz.func29,Tryz.ntmps29;go_wp2_with fail;rw [←HW0.out];refine (HPR.out _).mono ?_;rintro e w1 ⟨P,rfl,hown,hb⟩;obtain ⟨PA,pc,rfl, -⟩:=RdP.of_own hown;obtain ⟨pq,hpq⟩:∃ x,(af of).length=x:=⟨_,rfl⟩
 have HPQ:=zh hpq;rw [hpq] at hown ⊢;clear hpq;have HB1:=zB hb HB0;have HS1:=zh (show w.heap.size+2≤w1.heap.size by have:=hb.size;rw [HS0.out] at this;exact this);have hv1:=(hb.block w.heap.size (by rw [HS0.out];omega)).trans HV0.out;have HV1:=zh hv1;have HZ1:=zh ((hb.block (w.heap.size+1) (by rw [HS0.out];omega)).trans HZ0.out);have HOP:=zh hown;clear hown hb;obtain ⟨W1,hW1⟩:∃ W1,W1=w1.alloc (.cells MC 44):=⟨_,rfl⟩
 have HT1:=zh (show W1.heap.size=w1.heap.size+1 by rw [hW1,aF]);have HE1:=zh (show Below w1.heap.size w1 W1 by rw [hW1];exact (Below.refl _ _).alloc (Nat.le_refl _) _);have HBW:=zh (HB1.out.trans (HE1.out.mono HB1.out.size));have HO1:=zh (show dw w1.heap.size (w.heap.size+2) (Gs.take 0).flatten (.slice (some ⟨w1.heap.size,0,none⟩) 0 m) [] W1 from ⟨by rw [hW1];exact World.ownsRow_made w1 MC m (Nat.le_refl _) (by unfold maxLen;omega) HMS.out,(fun r hr=>by cases hr),List.nodup_nil,(fun x hx=>by cases hx)⟩);have HW1:=zh hW1;clear hW1;obtain ⟨⟨v0,v1,v2,v3,v4⟩, -⟩:=ae hv1;have hv1b:=(HE1.out.block w.heap.size (by have:=HS1.out;omega)).trans hv1;rw [HW1.out] at hv1b;obtain ⟨⟨y0,y1,y2,y3,y4⟩, -⟩:=ae hv1b;clear hv1 hv1b;go_wp2_with fail;rw [←HW1.out];clear v0 v1 v2 v3 v4 y0 y1 y2 y3 y4 hmk;go_loopw [6,20] (fun mv si wr=>∃ (j:Nat) (RR:List Mb),si = .int .i64 (j:Int)∧j≤m∧Aside (dw w1.heap.size (w.heap.size+2) (Gs.take j).flatten mv RR wr)∧Aside (aA (w1.heap.size::(Gs.take j).flatten) W1 wr)∧Aside (RR.map (fun r=>(r.nm,r.v))=((mem v).take j).filterMap (bP aw of))) (fun _ si _=>m-(intOf si).toNat)
 case atStart=>exact ⟨0,[],rfl,by omega,HO1.out,(show aA _ _ _ from aA.refl _ _),(show _=_ from rfl)⟩
 case round=>
  obtain ⟨j,RR,rfl,hjn,hO,hC,hR⟩:=hrel;have HO:=zh hO.out;have HC:=zh hC.out;have HR:=zh hR.out;clear hO hC hR;have HFAR:=zh (show ∀ b,b<w1.heap.size→b∉FM→wr.heap[b]? = w1.heap[b]? from fun b h1 h2=>(HC.out.block b (by have:=HT1.out;omega) (fun hx=>by
   rcases List.mem_cons.1 hx with e | e
   ·omega
   ·exact h2 (HGS.out b (qew e)))).trans (HE1.out.block b h1))
  have HFN:=zh (show ∀ b,w.heap.size≤b→b∉FM from fun b h hx=>by have:=HLT.out b (List.mem_append_right _ hx);omega);have hsr:w1.heap.size+1≤wr.heap.size:=by have:=HC.out.size;have:=HT1.out;omega
  by_cases hjm:j<m
  ·have t1:decide ((j:Int)<(m:Int))=true:=zT (by omega);have t2:decide (j<m)=true:=zT hjm;have j0:(0:Int)≤(j:Int):=by omega
   have j1:(j:Int)<(m:Int):=by omega
   have j2:((j:Int)).toNat=j:=by omega
   obtain ⟨g,nm,x,xA,xc,xB,xd,Gj,eA,hgF,hgG,htk,hcell,hGj,hfl,hcall⟩:=HIT.out j hjm;subst eA;have hgl:=HLT.out g (List.mem_append_right _ hgF);have hgr:wr.heap[g]? = w.heap[g]?:=(HC.out.block g (by have:=HT1.out;have:=HS1.out;omega) (fun hx=>by
    rcases List.mem_cons.1 hx with e | e
    ·have:=HS1.out;omega
    ·exact hgG (qew e))).trans (HBW.out.block g hgl)
   have hcell:=hcell.keep hgr;have a0:=(hcell 0 _ rfl).1;have a1:=(hcell 1 _ rfl).1;have a2:=(hcell 2 _ rfl).1;have a3:=(hcell 3 _ rfl).1;have a4:=(hcell 4 _ rfl).1;have a5:=(hcell 5 _ rfl).1;simp only [Nat.add_zero] at a0 a1 a2 a3 a4 a5;have HTK:=zh htk;have HGJ:=zh hGj;have HFLT:=zh hfl;have HSR:=zh hsr;have HRL:=zh (show RR.length≤j by
    have h1:=congrArg List.length HR.out;rw [List.length_map] at h1;have h2:=List.length_filterMap_le (bP aw of) ((mem v).take j);rw [List.length_take] at h2;omega)
   have HOR:=zh (show wr.ownsRow W0.heap.size 76 5 (.slice PA pq pc) (af of).length (Sm.aR (af of)) from by rw [HPQ.out];exact qg7 (w':=wr) HOP.out (fun b e=>by have:=HOP.out.lt b e;exact HFAR.out b this.2 (HFN.out b (by have:=HS0.out;omega))));have hfp:=HFND.out (.slice PA pq pc) (aa nm);rw [aD,qrZ] at hfp;obtain ⟨p,hp⟩:∃ p,(cX (af of) nm).getD Pr.zero=p:=⟨_,rfl⟩
   have HPE:=zh (show qbV of nm=p from hp);rw [hp] at hfp;have hdf:=fun (u:World)=>(show Calls Tryz.prog 56 #[prV p,.agg #[.int .i64 x.k,.int .i64 x.n,.string (aa x.s),.slice xA x.l.length xc,.slice xB x.ms.length xd]] u (Tl (qaJ p x) u) from qe6 p x.k x.n x.s xA xB x.l.length xc x.ms.length xd u)
   have hlw:=hcall p;have hpv:prV p = .agg #[.string (aa p.nm),.int .i64 p.fm,.string (aa p.ar),.bool p.mu,.string (aa p.df)]:=rfl;rw [hpv] at hfp hdf hlw;have HNL:=zh (show (aa nm).toList=nm from ak nm);obtain ⟨X,hX⟩:∃ X,aa nm=X:=⟨_,rfl⟩
   have HXS:=zh hX;rw [hX] at hfp a0 HNL;have HFP:=zh hfp;have HDF0:=zh hdf;have HLW:=zh hlw;generalize (cX (af of) nm).isSome=is at *;generalize aa p.nm=q0 at *;generalize p.fm=q1 at *;generalize aa p.ar=q2 at *;generalize p.mu=q3 at *;generalize aa p.df=q4 at *;generalize x.k=xk at *;generalize x.n=xn at *;generalize aa x.s=xS at *;generalize x.l.length=xl at *;generalize x.ms.length=xm at *;clear hX hfp hdf hlw hp hpv htk hcell hGj hfl hcall hgF hgG hgl hgr hsr;obtain ⟨W4,hW4⟩:∃ W4,W4=wr.alloc (.cells #[.string X,.int .i64 xk,.int .i64 xn,.string xS,.slice xA xl xc,.slice xB xm xd] 44):=⟨_,rfl⟩
   have HB4:=zh (show Below wr.heap.size wr W4 by rw [hW4];exact (Below.refl _ _).alloc (Nat.le_refl _) _);have HM4:=zh (show W4.heap[wr.heap.size]? = some (.cells #[.string X,.int .i64 xk,.int .i64 xn,.string xS,.slice xA xl xc,.slice xB xm xd] 44 (0,0)) by rw [hW4];exact ag _ _);have HL4:=zh (show wr.heap.size<W4.heap.size by rw [hW4,aF];exact Nat.lt_succ_self _);have HFC:=zh (HFP.out W4 (((RdP.of_own HOR.out).below HB4.out (Nat.le_refl _)).more HB4.out.size));obtain ⟨m0,m1,m2,m3,m4,m5⟩:=cH (ag wr (.cells #[.string X,.int .i64 xk,.int .i64 xn,.string xS,.slice xA xl xc,.slice xB xm xd] 44));have HW4:=zh hW4;clear hW4 HFP;go_wp2_with fail;rw [←HW4.out];refine HFC.out.mono ?_;rintro e w5 ⟨rfl,hb5⟩;have HB5:=zh (HB4.out.trans (hb5.mono HB4.out.size));have HL5:=zh (show wr.heap.size≤w5.heap.size from HB5.out.size);have hl5:wr.heap.size<w5.heap.size:=by have:=hb5.size;have:=HL4.out;omega
   have hm5:=(hb5.block wr.heap.size HL4.out).trans HM4.out;clear hb5 m0 m1 m2 m3 m4 m5 a0 a1 a2 a3 a4 a5;obtain ⟨W6,hW6⟩:∃ W6,W6=w5.alloc (.cells #[.string q0,.int .i64 q1,.string q2,.bool q3,.string q4] 76):=⟨_,rfl⟩
   have HB6:=zh (show Below wr.heap.size wr W6 by rw [hW6];exact HB5.out.alloc HB5.out.size _);have hm6:=(Below.heap_alloc w5 (.cells #[.string q0,.int .i64 q1,.string q2,.bool q3,.string q4] 76) _ hl5).trans hm5;have HM6:=zh (show W6.heap[wr.heap.size]? = some (.cells #[.string X,.int .i64 xk,.int .i64 xn,.string xS,.slice xA xl xc,.slice xB xm xd] 44 (0,0)) by rw [hW6];exact hm6);have HP6:=zh (show W6.heap[w5.heap.size]? = some (.cells #[.string q0,.int .i64 q1,.string q2,.bool q3,.string q4] 76 (0,0)) by rw [hW6];exact ag _ _);have HL6:=zh (show wr.heap.size<W6.heap.size∧w5.heap.size<W6.heap.size from ⟨by rw [hW6,aF];omega,by rw [hW6,aF];exact Nat.lt_succ_self _⟩);obtain ⟨m0,m1,m2,m3,m4,m5⟩:=cH hm6;obtain ⟨⟨p0,p1,p2,p3,p4⟩, -⟩:=Sm.aU (ag w5 (.cells #[.string q0,.int .i64 q1,.string q2,.bool q3,.string q4] 76));have HDF:=zh (HDF0.out W6);have HW6:=zh hW6;clear hW6 hm5 hm6 hl5 HDF0;by_cases hnt:nm=cJ
   ·have x1:(X.toList==[64,116,121,112,101])=true:=by rw [HNL.out,hnt];rfl
    have x2:X.toList=[64,116,121,112,101]:=by rw [HNL.out,hnt];rfl
    by_cases hof:of=dF
    ·have z1:(Y.toList==[84,105,109,101,115,116,97,109,112])=true:=by rw [HOF.out,hof];rfl
     have z2:Y.toList=[84,105,109,101,115,116,97,109,112]:=by rw [HOF.out,hof];rfl
     have z3:(Y.toList != [84,105,109,101,115,116,97,109,112])=false:=by rw [HOF.out,hof];rfl
     cases hdv:qaJ p x with
     | true=>
      have HNO:(nm=cJ∧of≠dF)∨qaJ (qbV of nm) x=true:= .inr (by rw [HPE.out];exact hdv);rw [hdv] at HDF;clear hdv HPE;go_wp2_with fail;rw [←HW6.out];refine HDF.out.mono ?_;rintro e w7 ⟨rfl,hb7⟩;have HB7:=zh (HB6.out.trans (hb7.mono HB6.out.size));clear hb7 m0 m1 m2 m3 m4 m5 p0 p1 p2 p3 p4;have HSK:=zh (qf7 (Gj:=Gj) HO.out HC.out HB7.out);have HRN:=zh (show RR.map (fun r=>(r.nm,r.v))=((mem v).take (j+1)).filterMap (bP aw of) by
       rw [qb8 HTK.out,qdZ HNO,←HR.out];simp)
      clear HNO;go_wp2_with fail;go_roundw
      case rel=>exact ⟨j+1,RR,by go_num,by omega,(show dw _ _ _ _ _ _ by rw [HFLT.out];exact HSK.out.1),(show aA _ _ _ by rw [HFLT.out];exact HSK.out.2),HRN.out⟩
      case measure=>simp [intOf];omega
     | false=>
      have HYES:bP aw of (nm,x)=some (nm,bQ aw p x):=by
       have:=qfs (N:=aw) (of:=of) (m:=(nm,x)) (fun h=>h.2 hof) (by show qaJ (qbV of nm) x=false;rw [HPE.out];exact hdv);rw [this];show some (nm,bQ aw (qbV of nm) x)=_;rw [HPE.out]
      rw [hdv] at HDF;clear hdv HPE;go_wp2_with fail;rw [←HW6.out];refine HDF.out.mono ?_;rintro e w7 ⟨rfl,hb7⟩;have HB7:=zh (HB6.out.trans (hb7.mono HB6.out.size));have HM7:=zh ((hb7.block wr.heap.size (by have:=HL6.out.1;omega)).trans HM6.out);have HP7:=zh ((hb7.block w5.heap.size (by have:=HL6.out.2;omega)).trans HP6.out);have HL7:=zh (show wr.heap.size<w7.heap.size∧wr.heap.size≤w5.heap.size∧w5.heap.size<w7.drew.heap.size from ⟨by have:=hb7.size;have:=HL6.out.1;omega,HL5.out,by have:=hb7.size;have:=HL6.out.2;show w5.heap.size<w7.heap.size;omega⟩);clear hb7 m0 m1 m2 m3 m4 m5 p0 p1 p2 p3 p4;obtain ⟨u7,hu7⟩:∃ u,u=w7.drew:=⟨_,rfl⟩
      have hb7:Below wr.heap.size wr u7:=by rw [hu7];exact HB7.out.drew
      have hwu:w.heap.size≤u7.heap.size:=by have:=hb7.size;have:=HSR.out;have:=HS1.out;omega
      have HO7:=zh (HO.out.keep hb7);have HC7:=zh (HC.out.trans (aA.of hb7));have HGK:=zh (show ∀ y∈Gj,u7.heap[y]? = w.heap[y]? from fun y hy=>by
       have hyF:=HGJ.out y hy;have hyl:=HLT.out y (List.mem_append_right _ hyF.1);exact (hb7.block y (by have:=HSR.out;have:=HS1.out;omega)).trans ((HC.out.block y (by have:=HT1.out;have:=HS1.out;omega) (fun hx=>by
        rcases List.mem_cons.1 hx with e | e
        ·have:=HS1.out;omega
        ·exact hyF.2 e)).trans (HBW.out.block y hyl)))
      have HCW:=zh (HLW.out u7 HGK.out hwu);have HLU:=zh (show wr.heap.size<u7.heap.size∧wr.heap.size≤w5.heap.size∧w5.heap.size<u7.heap.size by rw [hu7];exact HL7.out);have HW7:=zh hu7;have HU7:=zh hb7;clear hb7 hwu;have hst:u7.heap[wr.heap.size]? = some (.cells #[.string X,.int .i64 xk,.int .i64 xn,.string xS,.slice xA xl xc,.slice xB xm xd] 44 (0,0))∧u7.heap[w5.heap.size]? = some (.cells #[.string q0,.int .i64 q1,.string q2,.bool q3,.string q4] 76 (0,0)):=by rw [hu7];exact ⟨HM7.out,HP7.out⟩
      clear hu7;go_upto_region 8 with fail;refine wp_region_held_drew (S:=fun w'=>w'.heap[wr.heap.size]? = some (.cells #[.string X,.int .i64 xk,.int .i64 xn,.string xS,.slice xA xl xc,.slice xB xm xd] 44 (0,0))∧w'.heap[w5.heap.size]? = some (.cells #[.string q0,.int .i64 q1,.string q2,.bool q3,.string q4] 76 (0,0))) (by kernel_rfl) (by rw [←HW7.out];exact hst) (fun hHeld=>?_);rw [←HW7.out];clear hHeld;have hHeld:=hst;clear hst;refine zm 0 ⟨some 44,.move (.tmp 6),23,"normal.go:30",#[],none⟩ _ rfl (by kernel_rfl) (fun _ _ _ h=>h) (by rfl) hHeld (fun w hSw=>by go_simp;with_reducible rfl) ?_
      refine zm 1 ⟨some 45,.fieldAddr 44 (.tmp 8) 0,0,"normal.go:30",#[],none⟩ _ rfl (by kernel_rfl) (fun _ _ _ h=>h) (by rfl) hHeld (fun w hSw=>by go_simp;with_reducible rfl) ?_
      refine zm 2 ⟨some 46,.load 9 (.tmp 45),9,"normal.go:30",#[⟨1,.data⟩],none⟩ _ rfl (by kernel_rfl) (fun _ _ _ h=>h) (by rfl) hHeld (fun w hSw=>by obtain ⟨c0,c1,c2,c3,c4,c5⟩:=cH hSw.1;obtain ⟨⟨a0,a1,a2,a3,a4⟩, -⟩:=Sm.aU hSw.2;clear hSw;go_simp;with_reducible rfl) ?_
      refine zm 3 ⟨some 47,.load 76 (.tmp 9),76,"normal.go:30",#[],none⟩ _ rfl (by kernel_rfl) (fun _ _ _ h=>h) (by rfl) hHeld (fun w hSw=>by obtain ⟨c0,c1,c2,c3,c4,c5⟩:=cH hSw.1;obtain ⟨⟨a0,a1,a2,a3,a4⟩, -⟩:=Sm.aU hSw.2;clear hSw;go_simp;with_reducible rfl) ?_
      refine zm 4 ⟨some 48,.fieldAddr 44 (.tmp 8) 1,0,"normal.go:30",#[],none⟩ _ rfl (by kernel_rfl) (fun _ _ _ h=>h) (by rfl) hHeld (fun w hSw=>by go_simp;with_reducible rfl) ?_
      refine zm 5 ⟨some 49,.load 25 (.tmp 48),25,"normal.go:30",#[⟨4,.data⟩],none⟩ _ rfl (by kernel_rfl) (fun _ _ _ h=>h) (by rfl) hHeld (fun w hSw=>by obtain ⟨c0,c1,c2,c3,c4,c5⟩:=cH hSw.1;obtain ⟨⟨a0,a1,a2,a3,a4⟩, -⟩:=Sm.aU hSw.2;clear hSw;go_simp;with_reducible rfl) ?_
      refine wpAnyH_ready (rs:=[6]) (by kernel_rfl) (by simp) ?_;refine AllReadyH.cons (o:=⟨some 50,.call ⟨.value (.func 57),#[.tmp 47,.tmp 49],#[76,25]⟩,25,"normal.go:30",#[⟨3,.data⟩,⟨5,.data⟩],none⟩) rfl (fun K hK=>?_) AllReadyH.nil
      go_simp;refine HCW.out.mono ?_;rintro e w8 ⟨ys,G,rfl,hy,hGn,hG,hcg⟩;obtain ⟨yA,yc,yB,yd,_,_,rfl, -⟩:=id hy.cells;have HS8:=zh hHeld;have HG8:=zh (show ∀ b,w.heap.size≤b→b<u7.heap.size→w8.heap[b]? = u7.heap[b]? from fun b h1 h2=>hcg.block b h2 (fun hx=>by have:=HLT.out b (List.mem_append_right _ (HGJ.out b hx).1);omega));have HSZ8:=zh hcg.size;have HY:=zh hy;have HGN:=zh hGn;have HGG:=zh hG;have HCG:=zh hcg;have HRR:=zh (show RR.map (fun r=>(r.nm,r.v))++[(nm,bQ aw p x)]=((mem v).take (j+1)).filterMap (bP aw of) by
       rw [qb8 HTK.out,HYES,←HR.out];rfl)
      clear HYES;obtain ⟨y,hyy⟩:∃ y,bQ aw p x=y:=⟨_,rfl⟩
      rw [hyy] at HY HRR;rw [hyy];clear hyy hy hGn hG hcg;obtain ⟨yk,hyk⟩:∃ z,y.k=z:=⟨_,rfl⟩
      obtain ⟨yn,hyn⟩:∃ z,y.n=z:=⟨_,rfl⟩
      obtain ⟨yS,hyS⟩:∃ z,aa y.s=z:=⟨_,rfl⟩
      obtain ⟨yl,hyl⟩:∃ z,y.l.length=z:=⟨_,rfl⟩
      obtain ⟨ym,hym⟩:∃ z,y.ms.length=z:=⟨_,rfl⟩
      rw [hyk,hyn,hyS,hyl,hym] at HY ⊢;clear hyk hyn hyS hyl hym;refine hK.out _ _ (⟨(HG8.out _ (by have:=HSR.out;have:=HS1.out;omega) (by have:=HU7.out.size;have:=HLU.out.1;omega)).trans HS8.out.1,(HG8.out _ (by have:=HLU.out.2.1;have:=HSR.out;have:=HS1.out;omega) (by have:=HLU.out.2.2;omega)).trans HS8.out.2⟩) (fun hHeld=>?_);clear hK K;refine zm 7 ⟨some 51,.build 44 #[(0,.tmp 46),(1,.tmp 50)],44,"normal.go:30",#[⟨2,.data⟩,⟨6,.data⟩],none⟩ _ rfl (by kernel_rfl) (fun _ _ _ h=>h) (by rfl) hHeld (fun w hSw=>by go_simp;with_reducible rfl) ?_
      refine wpAnyH_ready (rs:=[8]) (by kernel_rfl) (by simp) ?_;refine AllReadyH.cons (o:=⟨some 52,.buildSlice 23 1 #[(0,.tmp 51)],23,"normal.go:30",#[⟨7,.data⟩],none⟩) rfl (fun K hK=>?_) AllReadyH.nil
      go_simp;refine hK.out _ _ (⟨(Below.heap_alloc w8 (.cells #[.string X,.int .i64 yk,.int .i64 yn,.string yS,.slice yA yl yc,.slice yB ym yd] 44) _ (by have:=HSZ8.out;have:=HU7.out.size;have:=HLU.out.1;omega)).trans hHeld.1,(Below.heap_alloc w8 (.cells #[.string X,.int .i64 yk,.int .i64 yn,.string yS,.slice yA yl yc,.slice yB ym yd] 44) _ (by have:=HSZ8.out;have:=HLU.out.2.2;omega)).trans hHeld.2⟩) (fun hHeld=>?_);clear hK K;have hown8:w8.ownsRow w1.heap.size 44 6 u6 RR.length (RR.map fun r=> .string (aa r.nm)::r.cs).flatten:=(HO7.out.chg HCG.out (fun y hy=>⟨by have:=HLT.out y (List.mem_append_right _ (HGJ.out y hy).1);omega,(HGJ.out y hy).2⟩) HS1.out).own;have HO8:=zh hown8;have hrl:=HRL.out;refine wpAnyH_ready (rs:=[9]) (by kernel_rfl) (by simp) ?_;refine AllReadyH.cons (o:=⟨some 53,.call ⟨Callee.builtin Builtin.append,#[.tmp 44,.tmp 52],#[23,23]⟩,23,"normal.go:30",#[⟨0,.data⟩,⟨8,.data⟩,⟨6,.chain⟩],none⟩) rfl (fun K hK=>?_) AllReadyH.nil
      refine step_append_lies _ (by rfl) _ _ _ (by rfl) w1.heap.size 44 i0 _ 6 96 Tryz.underlying23 hi hz0 hz1 hz2 (by rfl) (by decide) u6 RR.length _ (by rfl) (hown8.alloc _) ⟨w8.heap.size,0,none⟩ 1 1 [.string X,.int .i64 yk,.int .i64 yn,.string yS,.slice yA yl yc,.slice yB ym yd] (by rfl) (by rfl) (World.news_of_block (cs:= #[.string X,.int .i64 yk,.int .i64 yn,.string yS,.slice yA yl yc,.slice yB ym yd]) (t:=44) (fr:=(0,0)) (ag w8 _)) (by simp [Value.oneCell']) (by omega) (by unfold maxLen;omega) (by omega) (by have:=HSZ8.out;have:=HU7.out.size;have:=HSR.out;rw [aF];omega) (w8.heap.size+1) (by rw [aF]) ?_;intro gb cap w9 hown9 hg9 hat hlt9;have HPU:=zh (qkA (mv':= .slice (some ⟨gb,0,none⟩) (RR.length+1) cap) (nm:=nm) HO7.out HC7.out HT1.out HS1.out (fun y hy=>⟨by have:=HLT.out y (List.mem_append_right _ (HGJ.out y hy).1);omega,(HGJ.out y hy).2⟩) HY.out HGN.out HGG.out HCG.out (by rw [HXS.out];exact hown9) hg9 (by
       rcases hat with h | h
       ·exact .inl h.symm
       ·exact .inr (by rw [h,aF];rfl)))
      have hne:∀ b,wr.heap.size≤b→some b≠u6.ownBlock:=fun b h1 e=>by have:=(HO.out.own.lt b e.symm).2;omega
      refine hK.out _ _ (⟨(hg9.block _ (by rw [aF];have:=HSZ8.out;have:=HU7.out.size;have:=HLU.out.1;omega) (hne _ (Nat.le_refl _))).trans hHeld.1,(hg9.block _ (by rw [aF];have:=HSZ8.out;have:=HLU.out.2.2;omega) (hne _ (by have:=HLU.out.2.1;omega))).trans hHeld.2⟩) (fun hHeld=>?_);clear hK K;refine zm 10 ⟨some 6,.assign (.tmp 53),23,"normal.go:30",#[⟨9,.data⟩,⟨9,.chain⟩,⟨0,.phase⟩,⟨1,.phase⟩,⟨2,.phase⟩,⟨3,.phase⟩,⟨4,.phase⟩,⟨5,.phase⟩,⟨6,.phase⟩,⟨7,.phase⟩,⟨8,.phase⟩,⟨9,.phase⟩],none⟩ _ rfl (by kernel_rfl) (fun _ _ _ h=>h) (by rfl) hHeld (fun w hSw=>by go_simp;with_reducible rfl) ?_
      refine wpAnyH_done (by kernel_rfl) ?_ _;clear hHeld hown8 hown9 hg9 hat hlt9 hne hrl;go_wp2_with fail;go_roundw
      case rel=>exact ⟨j+1,RR++[⟨nm,_,y,G⟩],by go_num,by omega,(show dw _ _ _ _ _ _ by rw [HFLT.out];exact HPU.out.1),(show aA _ _ _ by rw [HFLT.out];exact HPU.out.2),(show _=_ by rw [List.map_append];exact HRR.out)⟩
      case measure=>simp [intOf];omega
    ·have z1:(Y.toList==[84,105,109,101,115,116,97,109,112])=false:=by rw [HOF.out];exact beq_eq_false_iff_ne.2 hof
     have z2:¬Y.toList=[84,105,109,101,115,116,97,109,112]:=by rw [HOF.out];exact hof
     have z3:(Y.toList != [84,105,109,101,115,116,97,109,112])=true:=by rw [HOF.out];exact bne_iff_ne.2 hof
     have HNO:(nm=cJ∧of≠dF)∨qaJ (qbV of nm) x=true:= .inl ⟨hnt,hof⟩;have HFA:=zh (show Below wr.heap.size wr W6 from HB6.out);have HSK:=zh (qf7 (Gj:=Gj) HO.out HC.out HB6.out);have HRN:=zh (show RR.map (fun r=>(r.nm,r.v))=((mem v).take (j+1)).filterMap (bP aw of) by
      rw [qb8 HTK.out,qdZ HNO,←HR.out];simp)
     clear HNO;go_wp2_with fail;rw [←HW6.out];go_roundw
     case rel=>exact ⟨j+1,RR,by go_num,by omega,(show dw _ _ _ _ _ _ by rw [HFLT.out];exact HSK.out.1),(show aA _ _ _ by rw [HFLT.out];exact HSK.out.2),HRN.out⟩
     case measure=>simp [intOf];omega
   ·have x1:(X.toList==[64,116,121,112,101])=false:=by rw [HNL.out];exact beq_eq_false_iff_ne.2 hnt
    have x2:¬X.toList=[64,116,121,112,101]:=by rw [HNL.out];exact hnt
    cases hdv:qaJ p x with
    | true=>
     have HNO:(nm=cJ∧of≠dF)∨qaJ (qbV of nm) x=true:= .inr (by rw [HPE.out];exact hdv);rw [hdv] at HDF;clear hdv HPE;go_wp2_with fail;rw [←HW6.out];refine HDF.out.mono ?_;rintro e w7 ⟨rfl,hb7⟩;have HB7:=zh (HB6.out.trans (hb7.mono HB6.out.size));clear hb7 m0 m1 m2 m3 m4 m5 p0 p1 p2 p3 p4;have HSK:=zh (qf7 (Gj:=Gj) HO.out HC.out HB7.out);have HRN:=zh (show RR.map (fun r=>(r.nm,r.v))=((mem v).take (j+1)).filterMap (bP aw of) by
      rw [qb8 HTK.out,qdZ HNO,←HR.out];simp)
     clear HNO;go_wp2_with fail;go_roundw
     case rel=>exact ⟨j+1,RR,by go_num,by omega,(show dw _ _ _ _ _ _ by rw [HFLT.out];exact HSK.out.1),(show aA _ _ _ by rw [HFLT.out];exact HSK.out.2),HRN.out⟩
     case measure=>simp [intOf];omega
    | false=>
     have HYES:bP aw of (nm,x)=some (nm,bQ aw p x):=by
      have:=qfs (N:=aw) (of:=of) (m:=(nm,x)) (fun h=>hnt h.1) (by show qaJ (qbV of nm) x=false;rw [HPE.out];exact hdv);rw [this];show some (nm,bQ aw (qbV of nm) x)=_;rw [HPE.out]
     rw [hdv] at HDF;clear hdv HPE;go_wp2_with fail;rw [←HW6.out];refine HDF.out.mono ?_;rintro e w7 ⟨rfl,hb7⟩;have HB7:=zh (HB6.out.trans (hb7.mono HB6.out.size));have HM7:=zh ((hb7.block wr.heap.size (by have:=HL6.out.1;omega)).trans HM6.out);have HP7:=zh ((hb7.block w5.heap.size (by have:=HL6.out.2;omega)).trans HP6.out);have HL7:=zh (show wr.heap.size<w7.heap.size∧wr.heap.size≤w5.heap.size∧w5.heap.size<w7.drew.heap.size from ⟨by have:=hb7.size;have:=HL6.out.1;omega,HL5.out,by have:=hb7.size;have:=HL6.out.2;show w5.heap.size<w7.heap.size;omega⟩);clear hb7 m0 m1 m2 m3 m4 m5 p0 p1 p2 p3 p4;obtain ⟨u7,hu7⟩:∃ u,u=w7.drew:=⟨_,rfl⟩
     have hb7:Below wr.heap.size wr u7:=by rw [hu7];exact HB7.out.drew
     have hwu:w.heap.size≤u7.heap.size:=by have:=hb7.size;have:=HSR.out;have:=HS1.out;omega
     have HO7:=zh (HO.out.keep hb7);have HC7:=zh (HC.out.trans (aA.of hb7));have HGK:=zh (show ∀ y∈Gj,u7.heap[y]? = w.heap[y]? from fun y hy=>by
      have hyF:=HGJ.out y hy;have hyl:=HLT.out y (List.mem_append_right _ hyF.1);exact (hb7.block y (by have:=HSR.out;have:=HS1.out;omega)).trans ((HC.out.block y (by have:=HT1.out;have:=HS1.out;omega) (fun hx=>by
       rcases List.mem_cons.1 hx with e | e
       ·have:=HS1.out;omega
       ·exact hyF.2 e)).trans (HBW.out.block y hyl)))
     have HCW:=zh (HLW.out u7 HGK.out hwu);have HLU:=zh (show wr.heap.size<u7.heap.size∧wr.heap.size≤w5.heap.size∧w5.heap.size<u7.heap.size by rw [hu7];exact HL7.out);have HW7:=zh hu7;have HU7:=zh hb7;clear hb7 hwu;have hst:u7.heap[wr.heap.size]? = some (.cells #[.string X,.int .i64 xk,.int .i64 xn,.string xS,.slice xA xl xc,.slice xB xm xd] 44 (0,0))∧u7.heap[w5.heap.size]? = some (.cells #[.string q0,.int .i64 q1,.string q2,.bool q3,.string q4] 76 (0,0)):=by rw [hu7];exact ⟨HM7.out,HP7.out⟩
     clear hu7;go_upto_region 8 with fail;refine wp_region_held_drew (S:=fun w'=>w'.heap[wr.heap.size]? = some (.cells #[.string X,.int .i64 xk,.int .i64 xn,.string xS,.slice xA xl xc,.slice xB xm xd] 44 (0,0))∧w'.heap[w5.heap.size]? = some (.cells #[.string q0,.int .i64 q1,.string q2,.bool q3,.string q4] 76 (0,0))) (by kernel_rfl) (by rw [←HW7.out];exact hst) (fun hHeld=>?_);rw [←HW7.out];clear hHeld;have hHeld:=hst;clear hst;refine zm 0 ⟨some 44,.move (.tmp 6),23,"normal.go:30",#[],none⟩ _ rfl (by kernel_rfl) (fun _ _ _ h=>h) (by rfl) hHeld (fun w hSw=>by go_simp;with_reducible rfl) ?_
     refine zm 1 ⟨some 45,.fieldAddr 44 (.tmp 8) 0,0,"normal.go:30",#[],none⟩ _ rfl (by kernel_rfl) (fun _ _ _ h=>h) (by rfl) hHeld (fun w hSw=>by go_simp;with_reducible rfl) ?_
     refine zm 2 ⟨some 46,.load 9 (.tmp 45),9,"normal.go:30",#[⟨1,.data⟩],none⟩ _ rfl (by kernel_rfl) (fun _ _ _ h=>h) (by rfl) hHeld (fun w hSw=>by obtain ⟨c0,c1,c2,c3,c4,c5⟩:=cH hSw.1;obtain ⟨⟨a0,a1,a2,a3,a4⟩, -⟩:=Sm.aU hSw.2;clear hSw;go_simp;with_reducible rfl) ?_
     refine zm 3 ⟨some 47,.load 76 (.tmp 9),76,"normal.go:30",#[],none⟩ _ rfl (by kernel_rfl) (fun _ _ _ h=>h) (by rfl) hHeld (fun w hSw=>by obtain ⟨c0,c1,c2,c3,c4,c5⟩:=cH hSw.1;obtain ⟨⟨a0,a1,a2,a3,a4⟩, -⟩:=Sm.aU hSw.2;clear hSw;go_simp;with_reducible rfl) ?_
     refine zm 4 ⟨some 48,.fieldAddr 44 (.tmp 8) 1,0,"normal.go:30",#[],none⟩ _ rfl (by kernel_rfl) (fun _ _ _ h=>h) (by rfl) hHeld (fun w hSw=>by go_simp;with_reducible rfl) ?_
     refine zm 5 ⟨some 49,.load 25 (.tmp 48),25,"normal.go:30",#[⟨4,.data⟩],none⟩ _ rfl (by kernel_rfl) (fun _ _ _ h=>h) (by rfl) hHeld (fun w hSw=>by obtain ⟨c0,c1,c2,c3,c4,c5⟩:=cH hSw.1;obtain ⟨⟨a0,a1,a2,a3,a4⟩, -⟩:=Sm.aU hSw.2;clear hSw;go_simp;with_reducible rfl) ?_
     refine wpAnyH_ready (rs:=[6]) (by kernel_rfl) (by simp) ?_;refine AllReadyH.cons (o:=⟨some 50,.call ⟨.value (.func 57),#[.tmp 47,.tmp 49],#[76,25]⟩,25,"normal.go:30",#[⟨3,.data⟩,⟨5,.data⟩],none⟩) rfl (fun K hK=>?_) AllReadyH.nil
     go_simp;refine HCW.out.mono ?_;rintro e w8 ⟨ys,G,rfl,hy,hGn,hG,hcg⟩;obtain ⟨yA,yc,yB,yd,_,_,rfl, -⟩:=id hy.cells;have HS8:=zh hHeld;have HG8:=zh (show ∀ b,w.heap.size≤b→b<u7.heap.size→w8.heap[b]? = u7.heap[b]? from fun b h1 h2=>hcg.block b h2 (fun hx=>by have:=HLT.out b (List.mem_append_right _ (HGJ.out b hx).1);omega));have HSZ8:=zh hcg.size;have HY:=zh hy;have HGN:=zh hGn;have HGG:=zh hG;have HCG:=zh hcg;have HRR:=zh (show RR.map (fun r=>(r.nm,r.v))++[(nm,bQ aw p x)]=((mem v).take (j+1)).filterMap (bP aw of) by
      rw [qb8 HTK.out,HYES,←HR.out];rfl)
     clear HYES;obtain ⟨y,hyy⟩:∃ y,bQ aw p x=y:=⟨_,rfl⟩
     rw [hyy] at HY HRR;rw [hyy];clear hyy hy hGn hG hcg;obtain ⟨yk,hyk⟩:∃ z,y.k=z:=⟨_,rfl⟩
     obtain ⟨yn,hyn⟩:∃ z,y.n=z:=⟨_,rfl⟩
     obtain ⟨yS,hyS⟩:∃ z,aa y.s=z:=⟨_,rfl⟩
     obtain ⟨yl,hyl⟩:∃ z,y.l.length=z:=⟨_,rfl⟩
     obtain ⟨ym,hym⟩:∃ z,y.ms.length=z:=⟨_,rfl⟩
     rw [hyk,hyn,hyS,hyl,hym] at HY ⊢;clear hyk hyn hyS hyl hym;refine hK.out _ _ (⟨(HG8.out _ (by have:=HSR.out;have:=HS1.out;omega) (by have:=HU7.out.size;have:=HLU.out.1;omega)).trans HS8.out.1,(HG8.out _ (by have:=HLU.out.2.1;have:=HSR.out;have:=HS1.out;omega) (by have:=HLU.out.2.2;omega)).trans HS8.out.2⟩) (fun hHeld=>?_);clear hK K;refine zm 7 ⟨some 51,.build 44 #[(0,.tmp 46),(1,.tmp 50)],44,"normal.go:30",#[⟨2,.data⟩,⟨6,.data⟩],none⟩ _ rfl (by kernel_rfl) (fun _ _ _ h=>h) (by rfl) hHeld (fun w hSw=>by go_simp;with_reducible rfl) ?_
     refine wpAnyH_ready (rs:=[8]) (by kernel_rfl) (by simp) ?_;refine AllReadyH.cons (o:=⟨some 52,.buildSlice 23 1 #[(0,.tmp 51)],23,"normal.go:30",#[⟨7,.data⟩],none⟩) rfl (fun K hK=>?_) AllReadyH.nil
     go_simp;refine hK.out _ _ (⟨(Below.heap_alloc w8 (.cells #[.string X,.int .i64 yk,.int .i64 yn,.string yS,.slice yA yl yc,.slice yB ym yd] 44) _ (by have:=HSZ8.out;have:=HU7.out.size;have:=HLU.out.1;omega)).trans hHeld.1,(Below.heap_alloc w8 (.cells #[.string X,.int .i64 yk,.int .i64 yn,.string yS,.slice yA yl yc,.slice yB ym yd] 44) _ (by have:=HSZ8.out;have:=HLU.out.2.2;omega)).trans hHeld.2⟩) (fun hHeld=>?_);clear hK K;have hown8:w8.ownsRow w1.heap.size 44 6 u6 RR.length (RR.map fun r=> .string (aa r.nm)::r.cs).flatten:=(HO7.out.chg HCG.out (fun y hy=>⟨by have:=HLT.out y (List.mem_append_right _ (HGJ.out y hy).1);omega,(HGJ.out y hy).2⟩) HS1.out).own;have HO8:=zh hown8;have hrl:=HRL.out;refine wpAnyH_ready (rs:=[9]) (by kernel_rfl) (by simp) ?_;refine AllReadyH.cons (o:=⟨some 53,.call ⟨Callee.builtin Builtin.append,#[.tmp 44,.tmp 52],#[23,23]⟩,23,"normal.go:30",#[⟨0,.data⟩,⟨8,.data⟩,⟨6,.chain⟩],none⟩) rfl (fun K hK=>?_) AllReadyH.nil
     refine step_append_lies _ (by rfl) _ _ _ (by rfl) w1.heap.size 44 i0 _ 6 96 Tryz.underlying23 hi hz0 hz1 hz2 (by rfl) (by decide) u6 RR.length _ (by rfl) (hown8.alloc _) ⟨w8.heap.size,0,none⟩ 1 1 [.string X,.int .i64 yk,.int .i64 yn,.string yS,.slice yA yl yc,.slice yB ym yd] (by rfl) (by rfl) (World.news_of_block (cs:= #[.string X,.int .i64 yk,.int .i64 yn,.string yS,.slice yA yl yc,.slice yB ym yd]) (t:=44) (fr:=(0,0)) (ag w8 _)) (by simp [Value.oneCell']) (by omega) (by unfold maxLen;omega) (by omega) (by have:=HSZ8.out;have:=HU7.out.size;have:=HSR.out;rw [aF];omega) (w8.heap.size+1) (by rw [aF]) ?_;intro gb cap w9 hown9 hg9 hat hlt9;have HPU:=zh (qkA (mv':= .slice (some ⟨gb,0,none⟩) (RR.length+1) cap) (nm:=nm) HO7.out HC7.out HT1.out HS1.out (fun y hy=>⟨by have:=HLT.out y (List.mem_append_right _ (HGJ.out y hy).1);omega,(HGJ.out y hy).2⟩) HY.out HGN.out HGG.out HCG.out (by rw [HXS.out];exact hown9) hg9 (by
      rcases hat with h | h
      ·exact .inl h.symm
      ·exact .inr (by rw [h,aF];rfl)))
     have hne:∀ b,wr.heap.size≤b→some b≠u6.ownBlock:=fun b h1 e=>by have:=(HO.out.own.lt b e.symm).2;omega
     refine hK.out _ _ (⟨(hg9.block _ (by rw [aF];have:=HSZ8.out;have:=HU7.out.size;have:=HLU.out.1;omega) (hne _ (Nat.le_refl _))).trans hHeld.1,(hg9.block _ (by rw [aF];have:=HSZ8.out;have:=HLU.out.2.2;omega) (hne _ (by have:=HLU.out.2.1;omega))).trans hHeld.2⟩) (fun hHeld=>?_);clear hK K;refine zm 10 ⟨some 6,.assign (.tmp 53),23,"normal.go:30",#[⟨9,.data⟩,⟨9,.chain⟩,⟨0,.phase⟩,⟨1,.phase⟩,⟨2,.phase⟩,⟨3,.phase⟩,⟨4,.phase⟩,⟨5,.phase⟩,⟨6,.phase⟩,⟨7,.phase⟩,⟨8,.phase⟩,⟨9,.phase⟩],none⟩ _ rfl (by kernel_rfl) (fun _ _ _ h=>h) (by rfl) hHeld (fun w hSw=>by go_simp;with_reducible rfl) ?_
     refine wpAnyH_done (by kernel_rfl) ?_ _;clear hHeld hown8 hown9 hg9 hat hlt9 hne hrl;go_wp2_with fail;go_roundw
     case rel=>exact ⟨j+1,RR++[⟨nm,_,y,G⟩],by go_num,by omega,(show dw _ _ _ _ _ _ by rw [HFLT.out];exact HPU.out.1),(show aA _ _ _ by rw [HFLT.out];exact HPU.out.2),(show _=_ by rw [List.map_append];exact HRR.out)⟩
     case measure=>simp [intOf];omega
  ·have t1:decide ((j:Int)<(m:Int))=false:=zF (by omega);have t2:decide (j<m)=false:=zF hjm;obtain rfl:m=j:=by omega
   have hRE:=HR.out;rw [List.take_of_length_le (by rw [HLEN.out];omega)] at hRE;obtain ⟨Am,cm,rfl⟩:=cP HO.out.own;obtain ⟨G,hy,hGn,hG,hc⟩:=qsU HV.out HECS.out HFL.out HND.out HLT.out (show w.heap.size≤w.heap.size+2 by omega) HS1.out HBW.out (fun x hx=>HGS.out x (qew hx)) HO.out HC.out hRE;rw [HEQ.out.1,HEQ.out.2.1,HEQ.out.2.2.1,HEQ.out.2.2.2] at hy;have hvr:=(HFAR.out w.heap.size (by have:=HS1.out;omega) (HFN.out _ (Nat.le_refl _))).trans HV1.out;have hzr:=(HFAR.out (w.heap.size+1) (by have:=HS1.out;omega) (HFN.out _ (by omega))).trans HZ1.out;obtain ⟨rl,hrl⟩:∃ x,RR.length=x:=⟨_,rfl⟩
   rw [hrl] at hy ⊢;obtain ⟨w2,hw2⟩:∃ w2,w2=wr.setCell ⟨w.heap.size,4,none⟩ (.slice Am rl cm):=⟨_,rfl⟩
   have hv2:w2.heap[w.heap.size]? = some (.cells #[.int .i64 k,.int .i64 n,.string S,.slice A l c,.slice Am rl cm] 25 (0,0)):=by rw [hw2];exact qaz wr w.heap.size 4 _ _ (.slice Am rl cm) hvr
   have hz2':w2.heap[w.heap.size+1]? = some (.cells #[.int .i64 0,.int .i64 0,.string ⟨#[]⟩,.slice none 0 0,.slice none 0 0] 25 (0,0)):=by rw [hw2,Below.heap_setCell _ _ _ _ (by show w.heap.size+1≠w.heap.size;omega)];exact hzr
   have HZ2:=zh hz2';have HRT:=zh (show ∀ v0 v1 v2 v3 v4,RdF (st5 w2 (w.heap.size+1) v0 v1 v2 v3 v4) (aw of v) [.int .i64 k,.int .i64 n,.string S,.slice A l c,.slice Am rl cm] G∧G.Nodup∧(∀ x∈G,(x∈FL++FM∨w.heap.size≤x)∧x<(st5 w2 (w.heap.size+1) v0 v1 v2 v3 v4).heap.size)∧aA (FL++FM) w (st5 w2 (w.heap.size+1) v0 v1 v2 v3 v4) from fun u0 u1 u2 u3 u4=>by
    have hst:Below w.heap.size wr (st5 w2 (w.heap.size+1) u0 u1 u2 u3 u4):=co (by rw [hw2];exact Below.setCell ⟨rfl,rfl,rfl,Nat.le_refl _,fun _ _=>rfl⟩ (p:=⟨w.heap.size,4,none⟩) (Nat.le_refl _) _) (by omega) _ _ _ _ _;have hne:∀ x∈G,x≠w.heap.size∧x≠w.heap.size+1:=fun x hx=>by
     rcases (hG x hx).1 with h1 | h1
     ·have:=HLT.out x h1;omega
     ·omega
    refine ⟨RdF.keep _ _ _ (fun x hx=>?_) hy,hGn,fun x hx=>⟨(hG x hx).1.imp id (fun h=>by omega),by have:=(hG x hx).2;have:=hst.size;omega⟩,⟨hst.os.trans hc.os,hst.tape.trans hc.tape,hst.output.trans hc.output,by have:=hc.size;have:=hst.size;omega,fun x hx hxF=>(hst.block x hx).trans (hc.block x hx hxF)⟩⟩;rw [ci (hne x hx).2,hw2,Below.heap_setCell _ _ _ _ (by show x≠w.heap.size;exact (hne x hx).1)])
   have HW2:=zh hw2;obtain ⟨⟨v0,v1,v2,v3,v4⟩,⟨f0,f1,f2,f3,f4⟩⟩:=ae hvr;obtain ⟨⟨u0,u1,u2,u3,u4⟩, -⟩:=ae hv2;obtain ⟨⟨z0,z1,z2,z3,z4⟩,⟨g0,g1,g2,g3,g4⟩⟩:=ae hz2';rw [hw2] at u0 u1 u2 u3 u4 z0 z1 z2 z3 z4 g0 g1 g2 g3 g4;clear hRE hy hGn hG hc hvr hzr hv2 hz2' hw2 hrl;go_wp2_with fail;rw [←HW2.out];refine bodyPost_ret (qd9 rfl rfl (cr HZ2.out (.int .i64 k) (.int .i64 n) (.string S) (.slice A l c) (.slice Am rl cm))) rfl ?_;exact ⟨_,G,rfl,HRT.out _ _ _ _ _⟩
