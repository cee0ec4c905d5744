/- Merged: EmC EmD EmE EmF PoT. -/
import Derived.Test.YtofelafamfckiaaGreatDoorTt17
import Derived.Test.YtofelafamfckiaaGreatDoorTt15
import Derived.Test.YtofelafamfckiaaGreatDoorTt20
import Derived.Shelf.Strings.Builder1
import Derived.Lib.ConvBytes
import Derived.Deep.LoopGhost
set_option maxRecDepth 100000
set_option maxHeartbeats 16000000
namespace Go.Proofs.YtofelafamfckiaaGreatDoor
namespace Em
open Go.RowKit Go.Maps Utf Sc Re
def Chk (w:World) (cb p:Nat):Prop:=w.heap[cb]? = some (.cells #[.int .i64 p] 61 (0,0))
theorem Chk.lt {w:World} {cb p:Nat} (h:Chk w cb p):cb<w.heap.size:=(Array.getElem?_eq_some_iff.1 h).1
theorem Chk.cell {w:World} {cb p:Nat} (h:Chk w cb p):w.cell? ⟨cb,0,none⟩=some (.int .i64 p)∧w.frozen? ⟨cb,0,none⟩=false:=
 ⟨(cell_of_row _ _ 0 _ _ _ h).trans rfl,frozen_of_row _ _ 0 _ _ h⟩
theorem Chk.below {w w':World} {cb p:Nat} (h:Chk w cb p) (hb:Below w.heap.size w w'):Chk w' cb p:=(hb.block cb h.lt).trans h
theorem Chk.alloc {w:World} {cb p:Nat} (h:Chk w cb p) (o:Obj):Chk (w.alloc o) cb p:=(heap_alloc_old _ _ h.lt).trans h
theorem Chk.set {w:World} {cb p:Nat} (h:Chk w cb p) (q:Nat):Chk (w.setCell ⟨cb,0,none⟩ (.int .i64 q)) cb q:=heap_setCell_same w cb 0 _ _ (.int .i64 q) h
def qbf (cb:Nat) (r:Nat×Int) (w:World) (e:Ending) (w':World):Prop:=e = .returned (.int .i64 r.2)∧Chk w' cb r.1∧w.grownBy w' (some cb)
theorem qio {w w':World} {lo hi cb:Nat} {v:V} {cs:List Value} (h:RdA w lo hi v cs) (hf:w.grownBy w' (some cb)) (h1:hi≤cb) (h2:hi≤w.heap.size):RdA w' lo hi v cs:=
 RdA.keep (fun p _ hp=>World.cell?_of_block (hf.block p.block (by omega) (fun e=>by have:=Option.some.inj e;omega))) (Nat.le_refl _) (Nat.le_refl _) v cs h
theorem qeH {l:List V} {k:Nat} (h:k<l.length) (d q:Nat):wkL (l.drop k) d q=if (wk l[k] d q).2≠0 then wk l[k] d q else wkL (l.drop (k+1)) d (wk l[k] d q).1:=by
 rw [List.drop_eq_getElem_cons h,wkL]
theorem qgr {l:List V} {k:Nat} (h:l.length≤k) (d q:Nat):wkL (l.drop k) d q=(q,0):=by
 rw [List.drop_of_length_le h,wkL]
theorem qfS (h:Nat):∀ (v:V) (cs:List Value) (lo hi cb d p:Nat) (w:World),ht v≤h→szA 4611686018427387904 v→RdA w lo hi v cs→hi≤cb→Chk w cb p→d≤17→p≤8192→
  Calls Tryz.prog 36 #[.pointer (some ⟨cb,0,none⟩),.agg cs.toArray,.int .i64 d] w (qbf cb (wk v d p) w):=by
 induction h with
 | zero=>intro v cs lo hi cb d p w hh;rw [qam] at hh;omega
 | succ h ih=>
  intro v cs lo hi cb d p w hh hz hR hhi hC hd hp;have hlt:=hC.lt;obtain ⟨A,c,A2,c2,rfl,hn,hL,hM⟩:=hR.cells;obtain ⟨_,_,hz3,hz4,hz5,hz6,hz7,hz8⟩:=(bL _ v).1 hz;have hht:=qam v;have iR:=fun w1 (hb:Below w.heap.size w w1)=>qb9 v _ lo w1 (hR.below hb (by omega) (by have:=hb.size;omega)) (by unfold maxLen;omega) (fun x hx=>by have:=hz6 x hx;unfold maxLen;omega) (by omega);have il:∀ v',v'∈v.l→∀ (cs:List Value) (q:Nat) (w:World),RdA w lo hi v' cs→Chk w cb q→d+1≤17→q≤8192→Calls Tryz.prog 36 #[.pointer (some ⟨cb,0,none⟩),.agg cs.toArray,.int .i64 ((d:Int)+1)] w (qbf cb (wk v' (d+1) q) w):=
   fun v' hv cs q w h1 h2 h3 h4=>ih v' cs lo hi cb (d+1) q w (by have:=bt hv;omega) (aU hz7 hv) h1 hhi h2 h3 h4
  have im:∀ v',v'∈v.ms→∀ (cs:List Value) (q:Nat) (w:World),RdA w lo hi v' cs→Chk w cb q→d+1≤17→q≤8192→Calls Tryz.prog 36 #[.pointer (some ⟨cb,0,none⟩),.agg cs.toArray,.int .i64 ((d:Int)+1)] w (qbf cb (wk v' (d+1) q) w):=
   fun v' hv cs q w h1 h2 h3 h4=>ih v' cs lo hi cb (d+1) q w (by have:=bt hv;omega) (aU hz8 hv) h1 hhi h2 h3 h4
  have hW:wk v d p=if 16<d then (p,51) else if p=8192 then (p,53) else if own v.k v.n v.s v.l.length v.ns v.ms.length then
   (if (wkL v.l (d+1) (p+1)).2≠0 then wkL v.l (d+1) (p+1) else wkL v.ms (d+1) (wkL v.l (d+1) (p+1)).1) else (p,1):=by cases v;rw [wk];rfl
  have hw1:16<d→wk v d p=(p,51):=fun e=>by rw [hW,if_pos e]
  have hw2:¬16<d→p=8192→wk v d p=(p,53):=fun e1 e2=>by rw [hW,if_neg e1,if_pos e2]
  have hw3:¬16<d→¬p=8192→¬own v.k v.n v.s v.l.length v.ns v.ms.length→wk v d p=(p,1):=fun e1 e2 e3=>by rw [hW,if_neg e1,if_neg e2,if_neg e3]
  have hw4:¬16<d→¬p=8192→own v.k v.n v.s v.l.length v.ns v.ms.length→wk v d p=if (wkL v.l (d+1) (p+1)).2≠0 then wkL v.l (d+1) (p+1) else wkL v.ms (d+1) (wkL v.l (d+1) (p+1)).1:=fun e1 e2 e3=>by rw [hW,if_neg e1,if_neg e2,if_pos e3]
  clear hW;have hsl:v.l.length≤4611686018427387904:=by omega
  have hsm:v.ms.length≤4611686018427387904:=by omega
  have wle:=fun l d q=>qel l d q;clear ih hh hht hz hR hz3 hz4 hz5 hz6 hz7 hz8;obtain ⟨k,n,s,l,ns,ms⟩:=v;simp only [V.k,V.n,V.s,V.l,V.ns,V.ms] at *;generalize wk (V.mk k n s l ns ms) d p=r at *;generalize own k n s l.length ns ms.length=Q at *;generalize ae s=S at *;have HC:=zh hC;have HL:=zh hL;clear hL;have HM:=zh hM;clear hM;have IL:=zh il;clear il;have IM:=zh im;clear im;have IR:=zh iR;clear iR;have HW:=zh (And.intro hw1 (And.intro hw2 (And.intro hw3 hw4)));clear hw1 hw2 hw3 hw4;have HN:=zh hn;clear hn;obtain ⟨c0,_⟩:=hC.cell;clear hC;have hb0:∀ o,Below w.heap.size w (w.alloc o):=fun o=>(Below.refl _ _).alloc (Nat.le_refl _) _;have HB0:=zh hb0;clear hb0;have hne:w.heap.size≠cb:=by omega
  by_cases h1:16<d
  ·have t1:decide ((16:Int)<(d:Int))=true:=zT (by omega);have t1b:decide (16<d)=true:=zT h1;have hr:r=(p,51):=HW.out.1 h1;subst hr;go_enter Tryz.func36,Tryz.ntmps36;go_wp2_with fail;go_ret;exact ⟨rfl,HC.out.alloc _,Fr.of cb (HB0.out _)⟩
  ·have t1:decide ((16:Int)<(d:Int))=false:=zF (by omega);have t1b:decide (16<d)=false:=zF h1;by_cases h2:p=8192
   ·have t2:((p:Int)==8192)=true:=by rw [beq_iff_eq];omega
    have hr:r=(p,53):=HW.out.2.1 h1 h2;subst hr h2;go_enter Tryz.func36,Tryz.ntmps36;go_wp2_with fail;go_ret;exact ⟨rfl,HC.out.alloc _,Fr.of cb (HB0.out _)⟩
   ·have t2:((p:Int)==8192)=false:=by rw [beq_eq_false_iff_ne];omega
    have t2b:((p:Int)=8192)=False:=by simp;omega
    go_enter Tryz.func36,Tryz.ntmps36;go_wp2_with fail;refine (IR.out _ (HB0.out _)).mono ?_;rintro e w1 ⟨⟨x,rfl,hx⟩,hb⟩;have hbw:Below w.heap.size w w1:=(HB0.out _).trans (hb.mono (by simp));have hC1:=HC.out.below hbw;obtain ⟨d0,fz⟩:=hC1.cell;have hz1:=(hb.block w.heap.size (by simp)).trans (heap_alloc_new w _);have f3:=(cell_of_row _ _ 3 _ _ _ hz1).trans rfl;have HC1:=zh hC1;clear hC1;have HZ1:=zh hz1;clear hz1;have HBW:=zh hbw;clear hbw;have HX:=zh hx;clear hx;clear hb;cases x with
    | false=>
     have hr:r=(p,1):=HW.out.2.2.1 h1 h2 (fun hq=>by have:=HX.out.2 hq;simp at this);subst hr;go_wp2_with fail;go_ret;exact ⟨rfl,HC1.out,Fr.of cb HBW.out⟩
    | true=>
     have hr:r=if (wkL l (d+1) (p+1)).2≠0 then wkL l (d+1) (p+1) else wkL ms (d+1) (wkL l (d+1) (p+1)).1:=HW.out.2.2.2 h1 h2 (HX.out.1 (by trivial))
     have HR:=zh hr;clear hr HW HX;go_wp2_with fail;obtain ⟨nl,hnl⟩:∃ z,l.length=z:=⟨_,rfl⟩
     rw [hnl];rw [hnl] at hsl;have HHnl:=zh hnl;have HLLnl:=zh (fun h=>HL.out (by rw [hnl];exact h));clear hnl;go_loopw [36] (fun i wr=>∃ kk q:Nat,i = .int .i64 kk∧kk≤nl∧Chk wr cb q∧q≤8192∧wkL l (d+1) (p+1)=wkL (l.drop kk) (d+1) q∧w1.grownBy wr (some cb)) (fun i _=>nl-(intOf i).toNat)
     case atStart=>exact ⟨0,p+1,rfl,by omega,(HC1.out.set (p+1)),by omega,by rw [List.drop_zero],Fr.set w1 cb 0 _⟩
     case round=>
      obtain ⟨kk,q,rfl,hk,hC2,hq,heq,hf⟩:=hrel;have hf0:=hf;have HF:=zh hf0;clear hf0;have hfw:w.grownBy wr (some cb):=(Fr.of cb HBW.out).trans hf;by_cases hlt0:kk<nl
      ·have hlt:kk<l.length:=by rw [HHnl.out];exact hlt0
       have hlb:decide ((kk:Int)<(nl:Int))=true:=zT (by omega);have hlb2:decide (kk<nl)=true:=zT hlt0;have k0:(0:Int)≤(kk:Int):=by omega
       have k1:(kk:Int)<(nl:Int):=by omega
       obtain ⟨g,o1,e1,_,hg,hRR⟩:=HLLnl.out (by omega);subst e1;obtain ⟨xa,hxa,hva⟩:=aN.at_ _ o1 hRR kk hlt;have hva2:=qio (w':=wr) hva hfw hhi (by omega);obtain ⟨p1,p2,p3,p4,ea,hj⟩:=hva.cells;clear hj;have hcell:∀ j u,xa[j]? = some u→wr.cell? ⟨g,o1+kk*5+j,none⟩=some u:=fun j u hu=>(World.cell?_of_block (hfw.block g (by omega) (fun e=>by have:=Option.some.inj e;omega))).trans (hxa j u hu);have hdr:=qeH hlt (d+1) q;have hmem:=List.getElem_mem hlt;have hcall:=fun w2 h1 h2=>IL.out _ hmem xa q w2 h1 h2 (by omega) hq;clear hmem;rw [ea] at hcell hcall hva2;generalize l[kk]=v' at *;generalize v'.k=y1 at *;generalize v'.n=y2 at *;generalize ae v'.s=y3 at *;generalize v'.l.length=y4 at *;generalize v'.ms.length=y5 at *;have a0:wr.cell? ⟨g,o1+kk*5,none⟩=_:=hcell 0 _ rfl;have a1:wr.cell? ⟨g,o1+kk*5+1,none⟩=_:=hcell 1 _ rfl;have a2:wr.cell? ⟨g,o1+kk*5+2,none⟩=_:=hcell 2 _ rfl;have a3:wr.cell? ⟨g,o1+kk*5+3,none⟩=_:=hcell 3 _ rfl;have a4:wr.cell? ⟨g,o1+kk*5+4,none⟩=_:=hcell 4 _ rfl;clear hcell hxa hva ea hRR;rcases hr2:wk v' (d+1) q with ⟨q2,y⟩;have hq2:=qi6 v' (d+1) q hq;rw [hr2] at hdr hcall hq2;have hC2':=hC2.alloc (.cells #[.int .i64 y1,.int .i64 y2,.string y3,.slice p1 y4 p2,.slice p3 y5 p4] 25);have hcc:=hcall _ (hva2.below ((Below.refl _ _).alloc (Nat.le_refl _) (.cells #[.int .i64 y1,.int .i64 y2,.string y3,.slice p1 y4 p2,.slice p3 y5 p4] 25)) (by have:=hfw.size;omega) (Nat.le_refl _)) hC2';clear hva2 hC2';have HCALL:=zh hcc;clear hcc hcall;have hdr2:=heq.trans hdr;clear hdr heq;by_cases hy:y=0
       ·subst hy;have HDR:=zh (hdr2.trans (if_neg (by simp)));clear hdr2;go_wp2_with fail;refine HCALL.out.mono ?_;rintro e w2 ⟨rfl,hC3,hf3⟩;go_wp2_with fail;go_roundw
        case rel=>exact ⟨kk+1,q2,by go_num,by omega,hC3,hq2.1,HDR.out,(Fr.alloc HF.out _).trans hf3⟩
        case measure=>simp [intOf];omega
       ·have HDR:=zh (hdr2.trans (if_pos hy));clear hdr2;have ty:(y != 0)=true:=by rw [bne_iff_ne];exact hy
        have HY:=zh hy;clear hy;go_wp2_with fail;refine HCALL.out.mono ?_;rintro e w2 ⟨rfl,hC3,hf3⟩;go_wp2_with fail;go_ret;have hr3:r=(q2,y):=by rw [HR.out,HDR.out,if_pos HY.out]
        rw [hr3];exact ⟨rfl,hC3,(Fr.of cb HBW.out).trans ((Fr.alloc HF.out _).trans hf3)⟩
      ·have hlb:decide ((kk:Int)<(nl:Int))=false:=zF (by omega);have hlb2:decide (kk<nl)=false:=zF hlt0;obtain rfl:nl=kk:=by omega
       rw [qgr (by rw [HHnl.out];exact Nat.le_refl _)] at heq;have HEnl:=zh heq;clear heq;have hr4:r=wkL ms (d+1) q:=by rw [HR.out,HEnl.out];simp
       have HR:=zh hr4;clear hr4;have hz2:=(hf.block w.heap.size (by have:=HZ1.out;exact (Array.getElem?_eq_some_iff.1 this).1) (fun e=>hne (Option.some.inj e).symm.symm)).trans HZ1.out;have f4:=(cell_of_row _ _ 4 _ _ _ hz2).trans rfl;clear hz2;obtain ⟨q0,hq0e⟩:∃ z,z=q:=⟨_,rfl⟩
       rw [←hq0e] at HR hC2 hq;clear hq0e HEnl;have hq0:=hq;have HC5:=zh hC2;clear hC2;have HF5:=zh hf;clear hf hfw;go_wp2_with fail;obtain ⟨nm,hnm⟩:∃ z,ms.length=z:=⟨_,rfl⟩
       rw [hnm];rw [hnm] at hsm;have HHnm:=zh hnm;have HLLnm:=zh (fun h=>HM.out (by rw [hnm];exact h));clear hnm;go_loopw [52] (fun i wr=>∃ kk q:Nat,i = .int .i64 kk∧kk≤nm∧Chk wr cb q∧q≤8192∧wkL ms (d+1) q0=wkL (ms.drop kk) (d+1) q∧w1.grownBy wr (some cb)) (fun i _=>nm-(intOf i).toNat)
       case atStart=>exact ⟨0,q0,rfl,by omega,HC5.out,hq0,by rw [List.drop_zero],HF5.out⟩
       case round=>
        obtain ⟨kk,q,rfl,hk,hC2,hq,heq,hf⟩:=hrel;have hf0:=hf;have HF:=zh hf0;clear hf0;have hfw:w.grownBy wr (some cb):=(Fr.of cb HBW.out).trans hf;by_cases hlt0:kk<nm
        ·have hlt:kk<ms.length:=by rw [HHnm.out];exact hlt0
         have hlb:decide ((kk:Int)<(nm:Int))=true:=zT (by omega);have hlb2:decide (kk<nm)=true:=zT hlt0;have k0:(0:Int)≤(kk:Int):=by omega
         have k1:(kk:Int)<(nm:Int):=by omega
         obtain ⟨g,o1,e1,_,hg,hRR⟩:=HLLnm.out (by omega);subst e1;have hlt2:kk<ns.length:=by rw [HN.out];exact hlt
         obtain ⟨hnm,xa,hxa,hva⟩:=aL.at_ _ _ o1 hRR kk hlt hlt2;have hva2:=qio (w':=wr) hva hfw hhi (by omega);obtain ⟨p1,p2,p3,p4,ea,hj⟩:=hva.cells;clear hj;have hcell:∀ j u,xa[j]? = some u→wr.cell? ⟨g,o1+kk*6+1+j,none⟩=some u:=fun j u hu=>(World.cell?_of_block (hfw.block g (by omega) (fun e=>by have:=Option.some.inj e;omega))).trans (hxa j u hu);have hdr:=qeH hlt (d+1) q;have hmem:=List.getElem_mem hlt;have hcall:=fun w2 h1 h2=>IM.out _ hmem xa q w2 h1 h2 (by omega) hq;clear hmem;rw [ea] at hcell hcall hva2;generalize ms[kk]=v' at *;generalize v'.k=y1 at *;generalize v'.n=y2 at *;generalize ae v'.s=y3 at *;generalize v'.l.length=y4 at *;generalize v'.ms.length=y5 at *;have a0:wr.cell? ⟨g,o1+kk*6+1,none⟩=_:=hcell 0 _ rfl;have a1:wr.cell? ⟨g,o1+kk*6+2,none⟩=_:=hcell 1 _ rfl;have a2:wr.cell? ⟨g,o1+kk*6+3,none⟩=_:=hcell 2 _ rfl;have a3:wr.cell? ⟨g,o1+kk*6+4,none⟩=_:=hcell 3 _ rfl;have a4:wr.cell? ⟨g,o1+kk*6+5,none⟩=_:=hcell 4 _ rfl;have b0:wr.cell? ⟨g,o1+kk*6,none⟩=some (.string (ae ns[kk])):=(World.cell?_of_block (hfw.block g (by omega) (fun e=>by have:=Option.some.inj e;omega))).trans hnm;clear hnm;generalize ae ns[kk]=X at *;clear hcell hxa hva ea hRR;rcases hr2:wk v' (d+1) q with ⟨q2,y⟩;have hq2:=qi6 v' (d+1) q hq;rw [hr2] at hdr hcall hq2;have hC2':=hC2.alloc (.cells #[.string X,.int .i64 y1,.int .i64 y2,.string y3,.slice p1 y4 p2,.slice p3 y5 p4] 37);have hcc:=hcall _ (hva2.below ((Below.refl _ _).alloc (Nat.le_refl _) (.cells #[.string X,.int .i64 y1,.int .i64 y2,.string y3,.slice p1 y4 p2,.slice p3 y5 p4] 37)) (by have:=hfw.size;omega) (Nat.le_refl _)) hC2';clear hva2 hC2';have HCALL:=zh hcc;clear hcc hcall;have hdr2:=heq.trans hdr;clear hdr heq;by_cases hy:y=0
         ·subst hy;have HDR:=zh (hdr2.trans (if_neg (by simp)));clear hdr2;go_wp2_with fail;refine HCALL.out.mono ?_;rintro e w2 ⟨rfl,hC3,hf3⟩;go_wp2_with fail;go_roundw
          case rel=>exact ⟨kk+1,q2,by go_num,by omega,hC3,hq2.1,HDR.out,(Fr.alloc HF.out _).trans hf3⟩
          case measure=>simp [intOf];omega
         ·have HDR:=zh (hdr2.trans (if_pos hy));clear hdr2;have ty:(y != 0)=true:=by rw [bne_iff_ne];exact hy
          have HY:=zh hy;clear hy;go_wp2_with fail;refine HCALL.out.mono ?_;rintro e w2 ⟨rfl,hC3,hf3⟩;go_wp2_with fail;go_ret;have hr3:r=(q2,y):=by rw [HR.out,HDR.out]
          rw [hr3];exact ⟨rfl,hC3,(Fr.of cb HBW.out).trans ((Fr.alloc HF.out _).trans hf3)⟩
        ·have hlb:decide ((kk:Int)<(nm:Int))=false:=zF (by omega);have hlb2:decide (kk<nm)=false:=zF hlt0;obtain rfl:nm=kk:=by omega
         rw [qgr (by rw [HHnm.out];exact Nat.le_refl _)] at heq;have HEnm:=zh heq;clear heq;go_wp2_with fail;go_ret;have hr3:r=(q,0):=by rw [HR.out,HEnm.out]
         rw [hr3];exact ⟨rfl,hC2,hfw⟩
theorem qgX (v:V) (cs:List Value) (lo:Nat) (w:World) (hz:szA 4611686018427387904 v) (hR:RdA w lo w.heap.size v cs) :
  Calls Tryz.prog 20 #[.agg cs.toArray] w (qdo (.int .i64 (chk v)) w):=by
 obtain ⟨A,c,A2,c2,e,_,_,_⟩:=hR.cells;have hv:=fun cb w1 (hb:Below w.heap.size w w1) h1 h2=>qfS (ht v) v cs lo w.heap.size cb 1 0 w1 (Nat.le_refl _) hz (hR.below hb (Nat.le_refl _) (Nat.le_refl _)) h1 h2 (by omega) (by omega);rw [e] at hv ⊢;clear hR;unfold chk;generalize wk v 1 0=r at *;generalize v.k=y1 at *;generalize v.n=y2 at *;generalize ae v.s=y3 at *;generalize v.l.length=y4 at *;generalize v.ms.length=y5 at *;have HV:=zh hv;clear hv;go_enter Tryz.func20,Tryz.ntmps20;go_wp2_with fail;refine (HV.out (w.heap.size+1) _ (((Below.refl w.heap.size w).alloc (Nat.le_refl _) _).alloc (by simp) _) (by omega) (by
  have:=heap_alloc_new (w.alloc (.cells #[.int .i64 y1,.int .i64 y2,.string y3,.slice A y4 c,.slice A2 y5 c2] 25)) (.cells #[.int .i64 0] 61);rw [aj] at this;exact this)).mono ?_
 rintro e w1 ⟨rfl,hC,hf⟩;go_wp2_with fail;go_ret;refine ⟨rfl,?_⟩;have hb:=((Below.refl w.heap.size w).alloc (Nat.le_refl _) (.cells #[.int .i64 y1,.int .i64 y2,.string y3,.slice A y4 c,.slice A2 y5 c2] 25)).alloc (by simp) (.cells #[.int .i64 0] 61);exact hb.grown hf (by simp;omega) (fun k hk=>by have:=Option.some.inj hk;omega)
end Em
namespace Em
open Go.RowKit Utf Sc Re
section
variable {P:Program} (w:World)
theorem qdj (base:Nat) (t u ty e:TypeId) (i:TypeInfo) (ht:P.underlying t=some (.slice e)) (hu:P.underlying u=some .string) (hi:P.info? e=some i) (hz:i.zero=some (.int .u8 0))
  (hsize:i.size=1) (hby:i.bytes=1) (v:Value) (n:Nat) (xs:List Value) (hown:w.ownsRow base e 1 v n xs) (s:ByteArray)
  (h63:n+s.size≤maxLen) (hbytes:n+s.size≤140737488355328) (hbase:base≤w.heap.size) :
  ∃ v' w',(Builtin.append_ #[t,u] ty #[v,.string s]).run P w = .ok v' w'∧w'.ownsRow base e 1 v' (n+s.size) (xs++Lib.strCells s)∧w.grownBy w' v.ownBlock∧(v'.ownBlock=v.ownBlock∨v'.ownBlock=some w.heap.size):=by
 obtain ⟨v',w',hr,h1,h2,h3⟩:=Lib.run_append_own_string (P:=P) w base t u ty e i ht hu hi hz hsize hby v n xs hown s h63 hbytes hbase;refine ⟨v',w',hr,h1,h2,?_⟩;have hsmall:n+s.size≤9223372036854775807:=by simp only [maxLen] at h63;omega
 have hxl:xs.length=n:=by simpa using hown.1
 rcases hown.2 with ⟨rfl,rfl⟩ | ⟨g,cap,cur,rfl,hbg,hg,hnc,hcm,hcs,htake⟩
 ·by_cases hm:s.size=0
  ·rw [h3.2 ⟨rfl,hm⟩];exact .inl rfl
  ·have hr2:=run_append_nil_string (P:=P) w t u ty e i (.int .u8 0) ht hu hi hz s (by omega) (by omega) (by rw [hby];omega);rw [hr2] at hr;obtain ⟨rfl,_⟩:=Result.ok.inj hr;exact .inr rfl
 ·by_cases hroom:n+s.size≤cap
  ·have hcs':cur.size=cap:=by simpa using hcs
   have hr2:=Lib.run_append_room_string (P:=P) w t u ty e i ht hu hi hsize g n cap cur hg s hroom (by omega);rw [hr2] at hr;obtain ⟨rfl,_⟩:=Result.ok.inj hr;exact .inl rfl
  ·have hr2:=Lib.run_append_grow_string (P:=P) w t u ty e i (.int .u8 0) ht hu hi hz ⟨g,0,none⟩ n cap xs (by rw [hsize];simpa using hxl) (hown.cells (g:=g) rfl) s (by omega) (by omega) (by rw [hby];exact growslice_fits (by omega) (by omega));rw [hr2] at hr;obtain ⟨rfl,_⟩:=Result.ok.inj hr;exact .inr rfl
theorem qaw {ops:Array Oper} {rest:List Oper} {o:Oper} {a:Act} {Q:Exit→Act→World→Prop} (hgd:o.guard=none) (sl x:Operand) (t u:TypeId)
  (ho:o.op = .call { callee:= .builtin .append,args:= #[sl,x],argTypes:= #[t,u] })
  (base:Nat) (e:TypeId) (i:TypeInfo) (ht:P.underlying t=some (.slice e)) (hu:P.underlying u=some .string) (hi:P.info? e=some i) (hz:i.zero=some (.int .u8 0))
  (hsize:i.size=1) (hby:i.bytes=1) (v:Value) (n:Nat) (xs:List Value) (hs:a.eval sl=v) (hown:w.ownsRow base e 1 v n xs) (s:ByteArray) (hx:a.eval x = .string s)
  (h63:n+s.size≤maxLen) (hbytes:n+s.size≤140737488355328) (hbase:base≤w.heap.size)
  (h:∀ v' w',w'.ownsRow base e 1 v' (n+s.size) (xs++Lib.strCells s)→w.grownBy w' v.ownBlock→(v'.ownBlock=v.ownBlock∨v'.ownBlock=some w.heap.size)→wpList P ops Q rest (a.put o.dst v') w'):wpList P ops Q (o::rest) a w:=by
 refine wpList_plain hgd fun K hK=>?_;obtain ⟨v',w',hr,h2,h3,h4⟩:=qdj (P:=P) w base t u o.type e i ht hu hi hz hsize hby v n xs hown s h63 hbytes hbase;unfold Oper.wp execOp;simp only [ho,resolve,invoke,builtin,Sem.run_bind,Sem.run_pure,Result.andThen_ok,List.map_toArray,List.map_cons,List.map_nil,hs,hx,hr];exact hK _ _ (h v' w' h2 h3 h4)
end
def Kp (B:Nat) (F:Nat→Prop) (w w':World):Prop:=Below B w w'∧∀ k,F k→w'.heap[k]? = w.heap[k]?
theorem Kp.trans {B:Nat} {F:Nat→Prop} {w w1 w2:World} (h:Kp B F w w1) (k:Kp B F w1 w2):Kp B F w w2:=⟨h.1.trans k.1,fun j hj=>(k.2 j hj).trans (h.2 j hj)⟩
theorem Kp.refl {B:Nat} {F:Nat→Prop} {w:World} (hB:B≤w.heap.size):Kp B F w w:=⟨(Below.refl _ w).mono hB,fun _ _=>rfl⟩
theorem Kp.less {B:Nat} {F G:Nat→Prop} {w w':World} (h:Kp B F w w') (hs:∀ k,G k→F k):Kp B G w w':=⟨h.1,fun k hk=>h.2 k (hs k hk)⟩
def Wtr (B b:Nat) (F:Nat→Prop) (X:List UInt8) (w:World):Prop:=
 ∃ v,w.heap[b]? = some (.cells #[v] 84 (0,0))∧w.ownsRow B 5 1 v X.length (Lib.byteCells X)∧B≤b∧¬F b∧(∀ g,v.ownBlock=some g→¬F g)∧∀ k,F k→k<w.heap.size
theorem Wtr.keep {B b:Nat} {F:Nat→Prop} {X:List UInt8} {w w':World} (h:Wtr B b F X w) (hb:Below w.heap.size w w'):Wtr B b F X w':=by
 obtain ⟨v,h1,h2,h3,h4,h5,h6⟩:=h;exact ⟨v,(hb.block b (Array.getElem?_eq_some_iff.1 h1).1).trans h1,aQ h2 hb,h3,h4,h5,fun k hk=>Nat.lt_of_lt_of_le (h6 k hk) hb.size⟩
theorem Wtr.kp {B b:Nat} {F:Nat→Prop} {X:List UInt8} {w w':World} (h:Wtr B b F X w) (hb:Below w.heap.size w w') (hB:B≤w.heap.size):Kp B F w w':=by
 obtain ⟨v,h1,h2,h3,h4,h5,h6⟩:=h;exact ⟨hb.mono hB,fun k hk=>hb.block k (h6 k hk)⟩
theorem Wtr.more {B b:Nat} {F:Nat→Prop} {X:List UInt8} {w:World} (h:Wtr B b F X w) (o:Obj):Wtr B b (fun k=>F k∨k=w.heap.size) X (w.alloc o):=by
 obtain ⟨v,h1,h2,h3,h4,h5,h6⟩:=h;have hb:Below w.heap.size w (w.alloc o):=(Below.refl _ _).alloc (Nat.le_refl _) _;have hlt:=(Array.getElem?_eq_some_iff.1 h1).1;refine ⟨v,(hb.block b hlt).trans h1,aQ h2 hb,h3,?_,?_,?_⟩
 ·rintro (h | h)
  ·exact h4 h
  ·omega
 ·rintro g hg (h | h)
  ·exact h5 g hg h
  ·have:=(h2.lt g hg).2;omega
 ·rintro k (h | h)
  ·have:=h6 k h;simp;omega
  ·simp;omega
theorem Wtr.less {B b:Nat} {F G:Nat→Prop} {X:List UInt8} {w:World} (h:Wtr B b F X w) (hs:∀ k,G k→F k):Wtr B b G X w:=by
 obtain ⟨v,h1,h2,h3,h4,h5,h6⟩:=h;exact ⟨v,h1,h2,h3,fun h=>h4 (hs _ h),fun g hg h=>h5 g hg (hs _ h),fun k hk=>h6 k (hs _ hk)⟩
def qiR (B b:Nat) (F:Nat→Prop) (X:List UInt8) (w:World) (e:Ending) (w':World):Prop:=e = .returned (.tuple #[])∧Wtr B b F X w'∧Kp B F w w'
theorem qdu {w:World} {base E n:Nat} {v:Value} {xs:List Value} (h:w.ownsRow base E 1 v n xs):∃ A c,v = .slice A n c:=by
 obtain ⟨_,h⟩:=h;rcases h with ⟨rfl,rfl⟩ | ⟨g,cap,cur,rfl,_⟩
 ·exact ⟨_,_,rfl⟩
 ·exact ⟨_,_,rfl⟩
theorem bC (B b:Nat) (F:Nat→Prop) (X:List UInt8) (s:ByteArray) (w:World) (h:Wtr B b F X w) (hr:X.length+s.size≤140737488355328) :
  Calls Tryz.prog 67 #[.pointer (some ⟨b,0,none⟩),.string s] w (qiR B b F (X++s.data.toList) w):=by
 obtain ⟨v,hb,hown,hBb,hFb,hFo,hFs⟩:=h;obtain ⟨i0,hi,hz0,hz1,hz2⟩:=info_parts bX;have hlt:b<w.heap.size:=(Array.getElem?_eq_some_iff.1 hb).1;have c0:w.cell? ⟨b,0,none⟩=some v:=by rw [cell_of_row w b 0 _ _ _ hb];rfl
 have f0:w.frozen? ⟨b,0,none⟩=false:=frozen_of_row w b 0 _ _ hb;have hne:some b≠v.ownBlock:=by
  intro e;rcases hown.2 with ⟨rfl,_⟩ | ⟨g,cap,cur,rfl,_,hg,_⟩
  ·cases e
  ·have e2:b=g:=by simpa [Value.ownBlock] using e
   subst e2;rw [hb] at hg;simp at hg
 go_enter Tryz.func67,Tryz.ntmps67;go_wp2_with (at_builtin;refine qaw _ rfl _ _ 82 9 rfl B 5 i0 Tryz.underlying82 Tryz.underlying9 hi hz0 hz1 hz2 _ _ _ rfl hown s rfl ?_ ?_ ?_ ?_;(unfold maxLen;omega);omega;omega;intro v2 w2 hown2 hg2' hat;have hg2:w.grownBy w2 v.ownBlock:=hg2';clear hg2';obtain ⟨A2,cc2,rfl⟩:=qdu hown2;have x0:=(hg2.block b hlt hne).trans hb;have x1:=frozen_of_row w2 b 0 _ _ x0;have x2:=(cell_of_row w2 b 0 _ _ _ x0).trans rfl)
 go_end0
 have x3:=heap_setCell_same w2 b 0 _ _ (.slice A2 (X.length+s.size) cc2) x0;have hsz:=hg2.size;refine ⟨rfl,⟨_,x3,?_,hBb,hFb,?_,fun k hk=>by have:=hFs k hk;simp;omega⟩,?_,fun k hk=>?_⟩
 ·have h2:=qaW hown2 x0 (by decide) ⟨b,0,none⟩ rfl (.slice A2 (X.length+s.size) cc2);rw [List.length_append,af,Lib.byteCells_append];exact h2
 ·intro g hg hFg;rcases hat with hat | hat
  ·rw [hat] at hg;exact hFo g hg hFg
  ·rw [hat] at hg;have:=Option.some.inj hg;have:=hFs g hFg;omega
 ·exact (((Below.refl B w).grown hg2 (by omega) (fun k hk=>(hown.lt k hk).1)).setCell hBb _)
 ·rw [heap_setCell_other w2 ⟨b,0,none⟩ k _ (fun e=>hFb (by have e':k=b:=e;rw [←e'];exact hk))];exact hg2.block k (hFs k hk) (fun e=>hFo k e.symm hk)
theorem qav (l:List UInt8):(⟨l.toArray⟩:ByteArray).data.toList=l:=rfl
theorem qhW (B b:Nat) (F:Nat→Prop) (X:List UInt8) (n:Int) (w:World) (h:Wtr B b F X w) (hr:X.length+5≤140737488355328) :
  Calls Tryz.prog 68 #[.pointer (some ⟨b,0,none⟩),.int .i64 n] w (qiR B b F (X++if n=1 then bS else qad) w):=by
 by_cases hn:n=1
 ·subst hn;rw [if_pos rfl];go_enter Tryz.func68,Tryz.ntmps68;go_wp2_with fail;refine (bC B b F X ⟨#[116,114,117,101]⟩ _ h (by show X.length+4≤_;omega)).mono ?_;rintro e w1 ⟨rfl,h1,hb⟩;go_wp2_with fail;go_end0
  exact ⟨rfl,h1,hb⟩
 ·have t1:(n==1)=false:=by rw [beq_eq_false_iff_ne];exact hn
  rw [if_neg hn];go_enter Tryz.func68,Tryz.ntmps68;go_wp2_with fail;refine (bC B b F X ⟨#[102,97,108,115,101]⟩ _ h (by show X.length+5≤_;omega)).mono ?_;rintro e w1 ⟨rfl,h1,hb⟩;go_wp2_with fail;go_end0
  exact ⟨rfl,h1,hb⟩
theorem qdw (B b:Nat) (F:Nat→Prop) (X:List UInt8) (k:Nat) (w:World) (h:Wtr B b F X w) (hB:B≤w.heap.size) (hr:X.length+1≤140737488355328) :
  Calls Tryz.prog 94 #[.pointer (some ⟨b,0,none⟩),.int .i64 k] w (qiR B b F (X++if 0<k then [44] else []) w):=by
 by_cases hk:0<k
 ·have t1:decide ((0:Int)<(k:Int))=true:=zT (by omega);have t2:decide (0<k)=true:=zT hk;rw [if_pos hk];go_enter Tryz.func94,Tryz.ntmps94;go_wp2_with fail;refine (bC B b F X ⟨#[44]⟩ _ h (by show X.length+1≤_;omega)).mono ?_;rintro e w1 ⟨rfl,h1,hb⟩;go_wp2_with fail;go_end0
  exact ⟨rfl,h1,hb⟩
 ·have t1:decide ((0:Int)<(k:Int))=false:=zF (by omega);have t2:decide (0<k)=false:=zF hk;rw [if_neg hk,List.append_nil];go_enter Tryz.func94,Tryz.ntmps94;go_wp2_with fail;go_end0
  exact ⟨rfl,h,Kp.refl hB⟩
def qeq (B b:Nat) (F:Nat→Prop) (X:List UInt8) (q:Prop) (w:World) (e:Ending) (w':World):Prop:=
 Kp B F w w'∧((q∧e = .returned (.bool true)∧Wtr B b F X w')∨(¬q∧e = .returned (.bool false)))
theorem qdN (B b:Nat) (F:Nat→Prop) (X:List UInt8) (s:ByteArray) (w:World) (h:Wtr B b F X w) (hB:B≤w.heap.size) (hs:s.size≤1099511627776) (hr:X.length+6*s.size+2≤140737488355328) :
  Calls Tryz.prog 70 #[.pointer (some ⟨b,0,none⟩),.string s] w (qeq B b F (X++qt s.data.toList) (okS s.data.toList) w):=by
 have hq:=Ch.qg8 s w (by omega);have hle:=qgJ s.data.toList;have hql:=qcs s.data.toList;rw [af] at hql;by_cases ho:okS s.data.toList
 ·have e:Ch.qas s.data.toList=(qt s.data.toList,true):=Ch.qcK (by unfold okS at ho;omega);rw [e] at hq;have HQ:=zh hq;clear hq e;have HO:=zh ho;clear ho;generalize qt s.data.toList=Y at *;go_enter Tryz.func70,Tryz.ntmps70;go_wp2_with fail;refine HQ.out.mono ?_;rintro e w1 ⟨rfl,hb1⟩;go_wp2_with fail;refine (bC B b F X (ae Y) _ (h.keep hb1) (by rw [aF];omega)).mono ?_;rintro e w2 ⟨rfl,h2,hb2⟩;go_wp2_with fail;go_ret;exact ⟨(h.kp hb1 hB).trans hb2,.inl ⟨HO.out,rfl,h2⟩⟩
 ·have e:Ch.qas s.data.toList=([],false):=Ch.qdM (by unfold okS at ho;omega);rw [e] at hq;have HQ:=zh hq;clear hq e;have HO:=zh ho;clear ho;go_enter Tryz.func70,Tryz.ntmps70;go_wp2_with fail;refine HQ.out.mono ?_;rintro e w1 ⟨rfl,hb1⟩;go_wp2_with fail;refine (bC B b F X (ae []) _ (h.keep hb1) (by rw [aF];simp;omega)).mono ?_;rintro e w2 ⟨rfl,h2,hb2⟩;go_wp2_with fail;go_ret;exact ⟨(h.kp hb1 hB).trans hb2,.inr ⟨HO.out,rfl⟩⟩
end Em
namespace Em
open Go.RowKit Utf Sc Re
theorem qdO (a b:List UInt8) (h:a≠[]):(a++b).drop 1=a.drop 1++b:=by
 cases a with
 | nil=>exact absurd rfl h
 | cons x r=>rfl
theorem qjb (l:List V) (k:Nat) (h:k<l.length):(emT (l.take (k+1))).drop 1=(emT (l.take k)).drop 1++((if 0<k then [44] else [])++emV l[k]):=by
 rw [qiS l k h];cases k with
 | zero=>simp [emT]
 | succ k=>
  rw [qdO _ _ (by cases l with
   | nil=>simp at h
   | cons v r=>rw [List.take_succ_cons,emT];simp),if_pos (by omega)]
  rfl
theorem qi7 (ns:List (List UInt8)) (ms:List V) (k:Nat) (h:k<ms.length) (hn:k<ns.length) (hl:ns.length=ms.length) :
  (emM (ns.take (k+1)) (ms.take (k+1))).drop 1=(emM (ns.take k) (ms.take k)).drop 1++((if 0<k then [44] else [])++(qt ns[k]++(58::emV ms[k]))):=by
 rw [qiA ns ms k h hn hl];cases k with
 | zero=>simp [emM]
 | succ k=>
  rw [qdO _ _ (by cases ms with
   | nil=>simp at h
   | cons v r=>rw [List.take_succ_cons,emM];simp),if_pos (by omega)]
  rfl
theorem qjY (l:List V) (k:Nat):(emT (l.take k)).length≤(emT l).length:=by
 have:=congrArg List.length (qgc (l.take k) (l.drop k));rw [List.take_append_drop,List.length_append] at this;omega
theorem qj6 (ns:List (List UInt8)) (ms:List V) (k:Nat) (hl:ns.length=ms.length):(emM (ns.take k) (ms.take k)).length≤(emM ns ms).length:=by
 have:=congrArg List.length (qgx (ms.take k) (ms.drop k) (ns.take k) (ns.drop k) (by simp [List.length_take];omega));rw [List.take_append_drop,List.take_append_drop,List.length_append] at this;omega
theorem qdx {l:List V} {k:Nat} (h:k<l.length):co (l.drop k)↔okW l[k]∧co (l.drop (k+1)):=by
 rw [List.drop_eq_getElem_cons h,co]
theorem qhS {ns:List (List UInt8)} {k:Nat} (h:k<ns.length):(∀ x∈ns.drop k,okS x)↔okS ns[k]∧(∀ x∈ns.drop (k+1),okS x):=by
 rw [List.drop_eq_getElem_cons h];simp only [List.mem_cons,forall_eq_or_imp]
theorem qbx {v:V}:∀ {l:List V},v∈l→szU v≤cr l:=by
 intro l;induction l with
 | nil=>intro h;cases h
 | cons a r ih=>
  intro h;rw [cr];rcases List.mem_cons.1 h with rfl | h
  ·omega
  ·have:=ih h;omega
theorem qkN {x:List UInt8}:∀ {ns:List (List UInt8)},x∈ns→1+x.length≤(ns.map fun x=>1+x.length).sum:=by
 intro ns;induction ns with
 | nil=>intro h;cases h
 | cons a r ih=>
  intro h;rw [List.map_cons,List.sum_cons];rcases List.mem_cons.1 h with rfl | h
  ·omega
  ·have:=ih h;omega
theorem qj8 (v:V):1≤szU v:=by cases v;rw [szU];omega
theorem qeV:∀ l:List V,l.length≤cr l:=by
 intro l;induction l with
 | nil=>simp
 | cons a r ih=>rw [cr,List.length_cons];have:=qj8 a;omega
theorem qaE {v:V}:∀ {l:List V},cq l→v∈l→bv v:=by
 intro l;induction l with
 | nil=>intro _ h;cases h
 | cons a r ih=>
  intro h hv;rw [cq] at h;rcases List.mem_cons.1 hv with rfl | hv
  ·exact h.1
  ·exact ih h.2 hv
def WV (lo hi B b:Nat) (v:V):Prop:=∀ (cs:List Value) (F:Nat→Prop) (X:List UInt8) (w:World),RdA w lo hi v cs→Wtr B b F X w→B≤w.heap.size→X.length+(emV v).length≤100000000000000→
 Calls Tryz.prog 49 #[.pointer (some ⟨b,0,none⟩),.agg cs.toArray] w (qeq B b F (X++emV v) (okW v) w)
theorem qhk (lo hi B b:Nat) (l:List V) (A:Option Addr) (c:Nat) (F:Nat→Prop) (X:List UInt8) (w:World) (hW:∀ v∈l,WV lo hi B b v) (hhi:hi≤B) (hL:0<l.length→∃ g o,A=some ⟨g,o,none⟩∧lo≤g∧g<hi∧aN w lo hi g o l)
  (h:Wtr B b F X w) (hB:B≤w.heap.size) (hl:l.length≤1099511627776) (hr:X.length+(91::((emT l).drop 1++[93])).length≤100000000000000) :
  Calls Tryz.prog 71 #[.pointer (some ⟨b,0,none⟩),.slice A l.length c] w (qeq B b F (X++91::((emT l).drop 1++[93])) (co l) w):=by
 have h1:=bC B b F X ⟨#[91]⟩ w h (by show X.length+1≤_;omega);rw [qav] at h1;obtain ⟨n,hn⟩:∃ z,l.length=z:=⟨_,rfl⟩
 rw [hn] at hl ⊢;have HN:=zh hn;have HL:=zh (fun h=>hL (by rw [hn];exact h));clear hL;have HW:=zh hW;clear hW;have H1:=zh h1;clear h1;simp only [List.length_cons,List.length_append,List.length_nil] at hr;have HR:=zh hr;clear hr hn;clear h;generalize hQ:co l=Q;have HQ:=zh hQ;clear hQ;generalize hY:X++91::((emT l).drop 1++[93])=Y;have HY:=zh hY;clear hY;go_enter Tryz.func71,Tryz.ntmps71;go_wp2_with fail;refine H1.out.mono ?_;rintro e w1 ⟨rfl,hw1,hb1⟩;have HW1:=zh hw1;clear hw1;have HB1:=zh hb1;clear hb1;go_wp2_with fail;go_loopw [11] (fun i wr=>∃ k:Nat,i = .int .i64 k∧k≤n∧Wtr B b F (X++91::(emT (l.take k)).drop 1) wr∧(Q↔co (l.drop k))∧Kp B F w wr) (fun i _=>n-(intOf i).toNat)
 case atStart=>exact ⟨0,rfl,by omega,HW1.out,by rw [List.drop_zero,HQ.out],HB1.out⟩
 case round=>
  obtain ⟨k,rfl,hk,hwr,hq,hkp⟩:=hrel;have hbel:=hkp.1;have hsz:=hbel.size;by_cases hlt0:k<n
  ·have hlt:k<l.length:=by rw [HN.out];exact hlt0
   have hlb:decide ((k:Int)<(n:Int))=true:=zT (by omega);have hlb2:decide (k<n)=true:=zT hlt0;have k0:(0:Int)≤(k:Int):=by omega
   have k1:(k:Int)<(n:Int):=by omega
   obtain ⟨g,o,e1,_,hg,hRR⟩:=HL.out (by omega);subst e1;obtain ⟨xa,hxa,hva⟩:=aN.at_ _ o hRR k hlt;obtain ⟨p1,p2,p3,p4,ea,hj⟩:=hva.cells;clear hj;have hcell:∀ j u,xa[j]? = some u→wr.cell? ⟨g,o+k*5+j,none⟩=some u:=fun j u hu=>(hbel.cell (p:=⟨g,o+k*5+j,none⟩) (by show g<B;omega)).trans (hxa j u hu);have hmem:=List.getElem_mem hlt;have hcall:=HW.out _ hmem xa (fun k=>F k∨k=wr.heap.size);have hst:=qjb l k hlt;have hpre:=qjY l (k+1);have hdr:=qdx hlt;clear hmem;rw [ea] at hcell hcall;have hva2:∀ w2,Below B w w2→RdA w2 lo hi l[k] xa:=fun w2 hb=>hva.below hb hhi (Nat.le_refl _);rw [ea] at hva2;obtain ⟨X1,hX1⟩:∃ z,z=X++91::(emT (l.take k)).drop 1:=⟨_,rfl⟩
   obtain ⟨X2,hX2⟩:∃ z,z=X1++(if 0<k then [44] else []):=⟨_,rfl⟩
   have hX3:X++91::(emT (l.take (k+1))).drop 1=X2++emV l[k]:=by rw [hst,hX2,hX1];simp
   have hlen:X2.length+(emV l[k]).length≤100000000000000:=by
    have:=congrArg List.length hX3;simp only [List.length_append,List.length_drop,List.length_cons] at this;have:=HR.out;rw [List.length_drop] at this;omega
   have hlen1:X1.length+1≤140737488355328:=by
    have:=congrArg List.length hX2;simp only [List.length_append] at this;omega
   rw [←hX1] at hwr;clear hst hX1;generalize l[k]=v' at *;generalize v'.k=y1 at *;generalize v'.n=y2 at *;generalize ae v'.s=y3 at *;generalize v'.l.length=y4 at *;generalize v'.ms.length=y5 at *;have a0:wr.cell? ⟨g,o+k*5,none⟩=_:=hcell 0 _ rfl;have a1:=hcell 1 _ rfl;have a2:=hcell 2 _ rfl;have a3:=hcell 3 _ rfl;have a4:=hcell 4 _ rfl;clear hcell hxa hva ea hRR;have hbA:Below wr.heap.size wr (wr.alloc (.cells #[.int .i64 y1,.int .i64 y2,.string y3,.slice p1 y4 p2,.slice p3 y5 p4] 25)):=(Below.refl _ _).alloc (Nat.le_refl _) _;have hcm:=qdw B b (fun k=>F k∨k=wr.heap.size) X1 k _ (hwr.more (.cells #[.int .i64 y1,.int .i64 y2,.string y3,.slice p1 y4 p2,.slice p3 y5 p4] 25)) (by have:=hbA.size;omega) hlen1;rw [←hX2] at hcm;clear hX2;have HCM:=zh hcm;clear hcm;have HCALL:=zh (fun w2 hb h2 h3=>hcall X2 w2 (hva2 w2 hb) h2 h3 hlen);clear hcall hva2;have HDR:=zh (hq.trans hdr);clear hq hdr;have HST:=zh hX3;clear hX3;have hkA:=hwr.kp hbA (by omega);have HKA:=zh (hkp.trans hkA);clear hkA hkp hbA;have FE:∀ (j:Nat) u,([.int .i64 y1,.int .i64 y2,.string y3,.slice p1 y4 p2,.slice p3 y5 p4]:List Value)[j]? = some u→(wr.alloc (.cells #[.int .i64 y1,.int .i64 y2,.string y3,.slice p1 y4 p2,.slice p3 y5 p4] 25)).cell? ⟨wr.heap.size,j,none⟩=some u:=fun j u hu=>by
    rw [cell_of_row _ _ j _ _ _ (heap_alloc_new wr _)]
    simpa using hu
   go_wp2_with fail;refine HCM.out.mono ?_;rintro e w2 ⟨rfl,hw2,hk2⟩;have hs2:=hk2.1.size;rw [aj] at hs2;have hcell:∀ (j:Nat) u,([.int .i64 y1,.int .i64 y2,.string y3,.slice p1 y4 p2,.slice p3 y5 p4]:List Value)[j]? = some u→w2.cell? ⟨wr.heap.size,j,none⟩=some u:=fun j u hu=>(World.cell?_of_block (hk2.2 wr.heap.size (.inr rfl))).trans (FE j u hu);have b0:=hcell 0 _ rfl;have b1:=hcell 1 _ rfl;have b2:=hcell 2 _ rfl;have b3:=hcell 3 _ rfl;have b4:=hcell 4 _ rfl;have hK2:=HKA.out.trans (hk2.less (fun _ h=> .inl h));have hc2:=HCALL.out w2 hK2.1 hw2 (by omega);have HK2:=zh hK2;clear hK2;have HC2:=zh hc2;clear hc2;clear hcell FE hk2 hw2;go_wp2_with fail;refine HC2.out.mono ?_;rintro e w3 ⟨hk3,⟨hok,rfl,hw3⟩ | ⟨hok,rfl⟩⟩
   ·have HO:=zh hok;clear hok;go_wp2_with fail;go_roundw
    case rel=>exact ⟨k+1,by go_num,by omega,by rw [HST.out];exact hw3.less (fun _ h=> .inl h),by rw [HDR.out];exact ⟨fun h=>h.2,fun h=>⟨HO.out,h⟩⟩,HK2.out.trans (hk3.less (fun _ h=> .inl h))⟩
    case measure=>simp [intOf];omega
   ·have HO:=zh hok;clear hok;go_wp2_with fail;go_ret;exact ⟨HK2.out.trans (hk3.less (fun _ h=> .inl h)),.inr ⟨fun h=>HO.out (HDR.out.1 h).1,rfl⟩⟩
  ·have hlb:decide ((k:Int)<(n:Int))=false:=zF (by omega);have hlb2:decide (k<n)=false:=zF hlt0;obtain rfl:n=k:=by omega
   have hfin:l.take n=l:=List.take_of_length_le (by rw [HN.out];exact Nat.le_refl _);rw [hfin] at hwr;have hq2:Q:=hq.2 (by rw [List.drop_of_length_le (by rw [HN.out];exact Nat.le_refl _),co];trivial);have HQ2:=zh hq2;clear hq2 hq;have hp:=bC B b F _ ⟨#[93]⟩ wr hwr (by have:=HR.out;simp only [List.length_append,List.length_cons];show _+1≤_;omega);rw [qav,show X++91::(emT l).drop 1++[93]=X++91::((emT l).drop 1++[93]) by simp,HY.out] at hp;have HP:=zh hp;clear hp hwr;have HKP:=zh hkp;clear hkp hbel;go_wp2_with fail;refine HP.out.mono ?_;rintro e w2 ⟨rfl,hw2,hk2⟩;go_wp2_with fail;go_ret;exact ⟨HKP.out.trans hk2,.inl ⟨HQ2.out,rfl,hw2⟩⟩
end Em
namespace Em
open Go.RowKit Utf Sc Re
open Nu (qa3)
theorem qeB (lo hi B b:Nat) (ns:List (List UInt8)) (ms:List V) (A:Option Addr) (c:Nat) (F:Nat→Prop) (X:List UInt8) (w:World) (hW:∀ v∈ms,WV lo hi B b v) (hnn:ns.length=ms.length) (hhi:hi≤B)
  (hL:0<ms.length→∃ g o,A=some ⟨g,o,none⟩∧lo≤g∧g<hi∧aL w lo hi g o ns ms) (hs:∀ x∈ns,x.length≤1099511627776)
  (h:Wtr B b F X w) (hB:B≤w.heap.size) (hl:ms.length≤1099511627776) (hr:X.length+(123::((emM ns ms).drop 1++[125])).length≤100000000000000) :
  Calls Tryz.prog 72 #[.pointer (some ⟨b,0,none⟩),.slice A ms.length c] w (qeq B b F (X++123::((emM ns ms).drop 1++[125])) ((∀ x∈ns,okS x)∧co ms) w):=by
 have h1:=bC B b F X ⟨#[123]⟩ w h (by show X.length+1≤_;omega);rw [qav] at h1;obtain ⟨n,hn⟩:∃ z,ms.length=z:=⟨_,rfl⟩
 rw [hn] at hl ⊢;have HN:=zh hn;have HNN:=zh hnn;have HS:=zh hs;clear hs;have HL:=zh (fun h=>hL (by rw [hn];exact h));clear hL;have HW:=zh hW;clear hW;have H1:=zh h1;clear h1;simp only [List.length_cons,List.length_append,List.length_nil] at hr;have HR:=zh hr;clear hr hn;clear h;generalize hQ:((∀ x∈ns,okS x)∧co ms)=Q;have HQ:=zh hQ;clear hQ;generalize hY:X++123::((emM ns ms).drop 1++[125])=Y;have HY:=zh hY;clear hY hnn;go_enter Tryz.func72,Tryz.ntmps72;go_wp2_with fail;refine H1.out.mono ?_;rintro e w1 ⟨rfl,hw1,hb1⟩;have HW1:=zh hw1;clear hw1;have HB1:=zh hb1;clear hb1;go_wp2_with fail;go_loopw [11] (fun i wr=>∃ k:Nat,i = .int .i64 k∧k≤n∧Wtr B b F (X++123::(emM (ns.take k) (ms.take k)).drop 1) wr∧(Q↔((∀ x∈ns.drop k,okS x)∧co (ms.drop k)))∧Kp B F w wr) (fun i _=>n-(intOf i).toNat)
 case atStart=>exact ⟨0,rfl,by omega,HW1.out,by rw [List.drop_zero,List.drop_zero,HQ.out],HB1.out⟩
 case round=>
  obtain ⟨k,rfl,hk,hwr,hq,hkp⟩:=hrel;have hbel:=hkp.1;have hsz:=hbel.size;by_cases hlt0:k<n
  ·have hlt:k<ms.length:=by rw [HN.out];exact hlt0
   have hltn:k<ns.length:=by rw [HNN.out];exact hlt
   have hlb:decide ((k:Int)<(n:Int))=true:=zT (by omega);have hlb2:decide (k<n)=true:=zT hlt0;have k0:(0:Int)≤(k:Int):=by omega
   have k1:(k:Int)<(n:Int):=by omega
   obtain ⟨g,o,e1,_,hg,hRR⟩:=HL.out (by omega);subst e1;obtain ⟨hnm,xa,hxa,hva⟩:=aL.at_ _ _ o hRR k hlt hltn;obtain ⟨p1,p2,p3,p4,ea,hj⟩:=hva.cells;clear hj;have b0:wr.cell? ⟨g,o+k*6,none⟩=some (.string (ae ns[k])):=(hbel.cell (p:=⟨g,o+k*6,none⟩) (by show g<B;omega)).trans hnm;have hcell:∀ j u,xa[j]? = some u→wr.cell? ⟨g,o+k*6+1+j,none⟩=some u:=fun j u hu=>(hbel.cell (p:=⟨g,o+k*6+1+j,none⟩) (by show g<B;omega)).trans (hxa j u hu);have hmem:=List.getElem_mem hlt;have hmemn:=List.getElem_mem hltn;have hcall:=HW.out _ hmem xa (fun k=>F k∨k=wr.heap.size);have hst:=qi7 ns ms k hlt hltn HNN.out;have hpre:=qj6 ns ms (k+1) HNN.out;have hdr:=qdx hlt;have hdrn:=qhS hltn;have hsl:=HS.out _ hmemn;have hql:=qcs ns[k];clear hmem hmemn;rw [ea] at hcell hcall;have hva2:∀ w2,Below B w w2→RdA w2 lo hi ms[k] xa:=fun w2 hb=>hva.below hb hhi (Nat.le_refl _);rw [ea] at hva2;obtain ⟨X1,hX1⟩:∃ z,z=X++123::(emM (ns.take k) (ms.take k)).drop 1:=⟨_,rfl⟩
   obtain ⟨X2,hX2⟩:∃ z,z=X1++(if 0<k then [44] else []):=⟨_,rfl⟩
   obtain ⟨X3,hX3⟩:∃ z,z=X2++qt ns[k]:=⟨_,rfl⟩
   obtain ⟨X4,hX4⟩:∃ z,z=X3++[58]:=⟨_,rfl⟩
   have hX5:X++123::(emM (ns.take (k+1)) (ms.take (k+1))).drop 1=X4++emV ms[k]:=by rw [hst,hX4,hX3,hX2,hX1];simp
   have hlen:X4.length+(emV ms[k]).length≤100000000000000:=by
    have:=congrArg List.length hX5;simp only [List.length_append,List.length_drop,List.length_cons] at this;have:=HR.out;rw [List.length_drop] at this;omega
   have hlen4:=congrArg List.length hX4;have hlen3:=congrArg List.length hX3;have hlen2:=congrArg List.length hX2;simp only [List.length_append,List.length_cons,List.length_nil] at hlen4 hlen3 hlen2;rw [←hX1] at hwr;clear hst hX1 hnm;generalize ns[k]=nm at *;generalize ms[k]=v' at *;generalize hXX:ae nm=XX at *;have hxd:XX.data.toList=nm:=by rw [←hXX];rfl
   have hxs:XX.size=nm.length:=by rw [←hXX];rfl
   clear hXX;generalize v'.k=y1 at *;generalize v'.n=y2 at *;generalize ae v'.s=y3 at *;generalize v'.l.length=y4 at *;generalize v'.ms.length=y5 at *;have a0:wr.cell? ⟨g,o+k*6+1,none⟩=_:=hcell 0 _ rfl;have a1:wr.cell? ⟨g,o+k*6+2,none⟩=_:=hcell 1 _ rfl;have a2:wr.cell? ⟨g,o+k*6+3,none⟩=_:=hcell 2 _ rfl;have a3:wr.cell? ⟨g,o+k*6+4,none⟩=_:=hcell 3 _ rfl;have a4:wr.cell? ⟨g,o+k*6+5,none⟩=_:=hcell 4 _ rfl;clear hcell hxa hva ea hRR;have hbA:Below wr.heap.size wr (wr.alloc (.cells #[.string XX,.int .i64 y1,.int .i64 y2,.string y3,.slice p1 y4 p2,.slice p3 y5 p4] 37)):=(Below.refl _ _).alloc (Nat.le_refl _) _;have hcm:=qdw B b (fun k=>F k∨k=wr.heap.size) X1 k _ (hwr.more (.cells #[.string XX,.int .i64 y1,.int .i64 y2,.string y3,.slice p1 y4 p2,.slice p3 y5 p4] 37)) (by have:=hbA.size;omega) (by omega);rw [←hX2] at hcm;clear hX2;have HCM:=zh hcm;clear hcm;have hqc:=fun w2 h2 h3=>qdN B b (fun k=>F k∨k=wr.heap.size) X2 XX w2 h2 h3 (by omega) (by omega);rw [hxd,←hX3] at hqc;clear hX3;have HQC:=zh hqc;clear hqc;have hpc:=fun w2 h2=>bC B b (fun k=>F k∨k=wr.heap.size) X3 ⟨#[58]⟩ w2 h2 (by show X3.length+1≤_;omega);rw [qav,←hX4] at hpc;clear hX4;have HPC:=zh hpc;clear hpc;have HCALL:=zh (fun w2 hb h2 h3=>hcall X4 w2 (hva2 w2 hb) h2 h3 (by omega));clear hcall hva2;have HDR:=zh (And.intro hq (And.intro hdrn hdr));clear hq hdr hdrn;have HST:=zh hX5;clear hX5;have hkA:=hwr.kp hbA (by omega);have HKA:=zh (hkp.trans hkA);clear hkA hkp hbA hlen hlen2 hlen3 hlen4 hql hpre;have FE:∀ (j:Nat) u,([.string XX,.int .i64 y1,.int .i64 y2,.string y3,.slice p1 y4 p2,.slice p3 y5 p4]:List Value)[j]? = some u→(wr.alloc (.cells #[.string XX,.int .i64 y1,.int .i64 y2,.string y3,.slice p1 y4 p2,.slice p3 y5 p4] 37)).cell? ⟨wr.heap.size,j,none⟩=some u:=fun j u hu=>by
    rw [cell_of_row _ _ j _ _ _ (heap_alloc_new wr _)]
    simpa using hu
   go_wp2_with fail;refine HCM.out.mono ?_;rintro e w2 ⟨rfl,hw2,hk2⟩;have hs2:=hk2.1.size;rw [aj] at hs2;have hcell:∀ (j:Nat) u,([.string XX,.int .i64 y1,.int .i64 y2,.string y3,.slice p1 y4 p2,.slice p3 y5 p4]:List Value)[j]? = some u→w2.cell? ⟨wr.heap.size,j,none⟩=some u:=fun j u hu=>(World.cell?_of_block (hk2.2 wr.heap.size (.inr rfl))).trans (FE j u hu);have d0:=hcell 0 _ rfl;have hK2:=HKA.out.trans (hk2.less (fun _ h=> .inl h));have hc2:=HQC.out w2 hw2 (by omega);have HK2:=zh hK2;clear hK2;have HC2:=zh hc2;clear hc2;have HFE:=zh hcell;clear hcell;clear FE hk2 hw2;go_wp2_with fail;refine HC2.out.mono ?_;rintro e w3 ⟨hk3,⟨hok,rfl,hw3⟩ | ⟨hok,rfl⟩⟩
   ·have HO:=zh hok;clear hok;have hs3:=hk3.1.size;have hcell:∀ (j:Nat) u,([.string XX,.int .i64 y1,.int .i64 y2,.string y3,.slice p1 y4 p2,.slice p3 y5 p4]:List Value)[j]? = some u→w3.cell? ⟨wr.heap.size,j,none⟩=some u:=fun j u hu=>(World.cell?_of_block (hk3.2 wr.heap.size (.inr rfl))).trans (HFE.out j u hu);have HFE3:=zh hcell;clear hcell;have HK3:=zh (HK2.out.trans (hk3.less (fun _ h=> .inl h)));have HP3:=zh (HPC.out w3 hw3);clear hw3 hk3;go_wp2_with fail;refine HP3.out.mono ?_;rintro e w4 ⟨rfl,hw4,hk4⟩;have hs4:=hk4.1.size;have hcell:∀ (j:Nat) u,([.string XX,.int .i64 y1,.int .i64 y2,.string y3,.slice p1 y4 p2,.slice p3 y5 p4]:List Value)[j]? = some u→w4.cell? ⟨wr.heap.size,j,none⟩=some u:=fun j u hu=>(World.cell?_of_block (hk4.2 wr.heap.size (.inr rfl))).trans (HFE3.out j u hu);have b1:=hcell 1 _ rfl;have b2:=hcell 2 _ rfl;have b3:=hcell 3 _ rfl;have b4:=hcell 4 _ rfl;have b5:=hcell 5 _ rfl;have hK4:=HK3.out.trans (hk4.less (fun _ h=> .inl h));have hc4:=HCALL.out w4 hK4.1 hw4 (by omega);have HK4:=zh hK4;clear hK4;have HC4:=zh hc4;clear hc4;clear hcell hk4 hw4;go_wp2_with fail;refine HC4.out.mono ?_;rintro e w5 ⟨hk5,⟨hok,rfl,hw5⟩ | ⟨hok,rfl⟩⟩
    ·have HO5:=zh hok;clear hok;go_wp2_with fail;go_roundw
     case rel=>exact ⟨k+1,by go_num,by omega,by rw [HST.out];exact hw5.less (fun _ h=> .inl h),by rw [HDR.out.1,HDR.out.2.1,HDR.out.2.2];exact ⟨fun h=>⟨h.1.2,h.2.2⟩,fun h=>⟨⟨HO.out,h.1⟩,HO5.out,h.2⟩⟩,HK4.out.trans (hk5.less (fun _ h=> .inl h))⟩
     case measure=>simp [intOf];omega
    ·have HO5:=zh hok;clear hok;go_wp2_with fail;go_ret;exact ⟨HK4.out.trans (hk5.less (fun _ h=> .inl h)),.inr ⟨fun h=>HO5.out (HDR.out.2.2.1 (HDR.out.1.1 h).2).1,rfl⟩⟩
   ·have HO:=zh hok;clear hok;go_wp2_with fail;go_ret;exact ⟨HK2.out.trans (hk3.less (fun _ h=> .inl h)),.inr ⟨fun h=>HO.out (HDR.out.2.1.1 (HDR.out.1.1 h).1).1,rfl⟩⟩
  ·have hlb:decide ((k:Int)<(n:Int))=false:=zF (by omega);have hlb2:decide (k<n)=false:=zF hlt0;obtain rfl:n=k:=by omega
   have hfin:ms.take n=ms:=List.take_of_length_le (by rw [HN.out];exact Nat.le_refl _);have hfinn:ns.take n=ns:=List.take_of_length_le (by rw [HNN.out,HN.out];exact Nat.le_refl _);rw [hfin,hfinn] at hwr;have hq2:Q:=hq.2 (by rw [List.drop_of_length_le (l:=ms) (by rw [HN.out];exact Nat.le_refl _),List.drop_of_length_le (l:=ns) (by rw [HNN.out,HN.out];exact Nat.le_refl _),co];simp);have HQ2:=zh hq2;clear hq2 hq;have hp:=bC B b F _ ⟨#[125]⟩ wr hwr (by have:=HR.out;simp only [List.length_append,List.length_cons];show _+1≤_;omega);rw [qav,show X++123::(emM ns ms).drop 1++[125]=X++123::((emM ns ms).drop 1++[125]) by simp,HY.out] at hp;have HP:=zh hp;clear hp hwr;have HKP:=zh hkp;clear hkp hbel;go_wp2_with fail;refine HP.out.mono ?_;rintro e w2 ⟨rfl,hw2,hk2⟩;go_wp2_with fail;go_ret;exact ⟨HKP.out.trans hk2,.inl ⟨HQ2.out,rfl,hw2⟩⟩
theorem qlU (k n:Int) (s:List UInt8) (l:List V) (ns:List (List UInt8)) (ms:List V) (hn:ns.length=ms.length) :
  (¬own k n s l.length ns ms.length→¬okW (.mk k n s l ns ms))∧(own k n s l.length ns ms.length→(k≠5→k≠6→okW (.mk k n s l ns ms))∧(k=5→(okW (.mk k n s l ns ms)↔co l))∧(k=6→(okW (.mk k n s l ns ms)↔((∀ x∈ns,okS x)∧co ms)))):=by
 rw [okW];refine ⟨fun h1 h2=>h1 h2.1,fun h=>⟨fun h5 h6=>?_,fun h5=>?_,fun h6=>?_⟩⟩
 ·have e1:=qia h h5;have e2:=qiw h h6;subst e1 e2;have e3:=List.eq_nil_of_length_eq_zero (by simpa using hn:ns.length=0);subst e3;exact ⟨h,(fun x hx=>by cases hx),by rw [co];trivial,by rw [co];trivial⟩
 ·have e2:=qiw h (by omega);subst e2;have e3:=List.eq_nil_of_length_eq_zero (by simpa using hn:ns.length=0);subst e3;exact ⟨fun h=>h.2.2.1,fun g=>⟨h,(fun x hx=>by cases hx),g,by rw [co];trivial⟩⟩
 ·have e1:=qia h (by omega);subst e1;exact ⟨fun h=>⟨h.2.1,h.2.2.2⟩,fun g=>⟨h,g.1,by rw [co];trivial,g.2⟩⟩
theorem qft (lo hi B b:Nat) (hhi:hi≤B) (h:Nat):∀ (v:V),ht v≤h→bv v→szU v≤1099511627776→WV lo hi B b v:=by
 induction h with
 | zero=>intro v hh;rw [qam] at hh;omega
 | succ h ih=>
  intro v hh hlen hsz cs F X w hR hWt hB hr;have hht:=qam v;obtain ⟨A,c,A2,c2,rfl,hn,hL,hM⟩:=hR.cells;obtain ⟨k,n,s,l,ns,ms⟩:=v;simp only [V.k,V.n,V.s,V.l,V.ns,V.ms] at *;rw [bv] at hlen;rw [szU] at hsz;have hul:=qeV l;have hum:=qeV ms;have hss:s.length≤1099511627776:=by omega
  have hns:∀ x∈ns,x.length≤1099511627776:=fun x hx=>by have:=qkN hx;omega
  have iR:=fun w1 (hb:Below w.heap.size w w1)=>qb9 (.mk k n s l ns ms) _ lo w1 (hR.below hb (by omega) (by have:=hb.size;omega)) (by show s.length≤maxLen;unfold maxLen;omega) (fun x hx=>by have:=hns x hx;unfold maxLen;omega) (by show ms.length≤_;omega);simp only [V.k,V.n,V.s,V.l,V.ns,V.ms] at iR;have il:∀ v'∈l,WV lo hi B b v':=fun v' hv=>ih v' (by have:=bt hv;clear hL hM;omega) (qaE hlen.2.1 hv) (by have:=qbx hv;omega);have im:∀ v'∈ms,WV lo hi B b v':=fun v' hv=>ih v' (by have:=bt hv;clear hL hM;omega) (qaE hlen.2.2 hv) (by have:=qbx hv;omega);have hE:emV (.mk k n s l ns ms)=if k=1 then ce else if k=2 then (if n=1 then bS else qad) else if k=3 then qa3 n else if k=4 then qt s else if k=5 then 91::((emT l).drop 1++[93]) else 123::((emM ns ms).drop 1++[125]):=by rw [emV]
  have hOK:=qlU k n s l ns ms hn;have hq4:own k n s l.length ns ms.length→k=4→okS s:=fun h=>h.2.2.2.1;have hq3:own k n s l.length ns ms.length→k=3→ -9007199254740991≤n∧n≤9007199254740991:=fun h=>h.2.2.1;have hq1:own k n s l.length ns ms.length→1≤k∧k≤6:=fun h=>h.1.1;have cl:=fun F w1 (hb:Below B w w1) h1 h2 h3=>qhk lo hi B b l A c F X w1 il hhi (fun h0=>by
   obtain ⟨g,o,e,g1,g2,g3⟩:=hL h0;exact ⟨g,o,e,g1,g2,aN.keep (fun p _ hp=>hb.cell (by omega)) (Nat.le_refl _) (Nat.le_refl _) _ _ _ g1 g2 g3⟩) h1 h2 (by omega) h3
  have cm:=fun F w1 (hb:Below B w w1) h1 h2 h3=>qeB lo hi B b ns ms A2 c2 F X w1 im hn hhi (fun h0=>by
   obtain ⟨g,o,e,g1,g2,g3⟩:=hM h0;exact ⟨g,o,e,g1,g2,aL.keep (fun p _ hp=>hb.cell (by omega)) (Nat.le_refl _) (Nat.le_refl _) _ _ _ _ g1 g2 g3⟩) hns h1 h2 (by omega) h3
  have hql:=qcs s;clear ih hh hht hR hL hM hlen hsz hul hum hns il im hn;generalize own k n s l.length ns ms.length=Q at *;generalize okW (V.mk k n s l ns ms)=OK at *;generalize emV (V.mk k n s l ns ms)=E at *;generalize co l=OL at *;generalize ((∀ x∈ns,okS x)∧co ms)=OM at *;generalize (91::((emT l).drop 1++[93]))=EL at *;generalize (123::((emM ns ms).drop 1++[125]))=EM at *;generalize l.length=ll at *;generalize ms.length=lm at *;generalize hS:ae s=S at *;have hSd:S.data.toList=s:=by rw [←hS];rfl
  have hSs:S.size=s.length:=by rw [←hS];rfl
  clear hS;have IR:=zh iR;clear iR;have CL:=zh cl;clear cl;have CM:=zh cm;clear cm;have HE:=zh hE;clear hE;have HOK:=zh hOK;clear hOK;have HQ:=zh (And.intro hq1 (And.intro hq3 hq4));clear hq1 hq3 hq4;have HWT:=zh hWt;clear hWt;have hb0:∀ o,Below w.heap.size w (w.alloc o):=fun o=>(Below.refl _ _).alloc (Nat.le_refl _) _;have HB0:=zh hb0;clear hb0;go_enter Tryz.func49,Tryz.ntmps49;go_wp2_with fail;refine (IR.out _ (HB0.out _)).mono ?_;rintro e w1 ⟨⟨x,rfl,hx⟩,hb⟩;have hbw:Below w.heap.size w w1:=(HB0.out _).trans (hb.mono (by simp));have hz1:=(hb.block w.heap.size (by simp)).trans (heap_alloc_new w _);have f0:=(cell_of_row _ _ 0 _ _ _ hz1).trans rfl;have f1:=(cell_of_row _ _ 1 _ _ _ hz1).trans rfl;have f2:=(cell_of_row _ _ 2 _ _ _ hz1).trans rfl;have f3:=(cell_of_row _ _ 3 _ _ _ hz1).trans rfl;have f4:=(cell_of_row _ _ 4 _ _ _ hz1).trans rfl;have hsz1:=hbw.size;have hw1:=HWT.out.keep hbw;have hk1:=HWT.out.kp hbw hB;clear hz1 hb;have HW1:=zh hw1;clear hw1;have HK1:=zh hk1;clear hk1;have HX:=zh hx;clear hx;cases x with
  | false=>
   have hno:¬OK:=HOK.out.1 (fun hq=>by have:=HX.out.2 hq;simp at this);have HNO:=zh hno;clear hno;go_wp2_with fail;go_ret;exact ⟨HK1.out,.inr ⟨HNO.out,rfl⟩⟩
  | true=>
   have hq:Q:=HX.out.1 (by trivial);have hk:=HQ.out.1 hq;have hok:=HOK.out.2 hq;have hq3:=HQ.out.2.1 hq;have hq4:=HQ.out.2.2 hq;clear HQ HOK HX IR;by_cases h1:k=1
   ·have hEe:E=ce:=by rw [HE.out,if_pos h1]
    subst h1 hEe;have hp:=bC B b F X ⟨#[110,117,108,108]⟩ w1 HW1.out (by show X.length+4≤_;omega);have HP:=zh hp;clear hp;have HO:=zh (hok.1 (by decide) (by decide));clear hok hq3 hq4;go_wp2_with fail;refine HP.out.mono ?_;rintro e w2 ⟨rfl,hw2,hk2⟩;go_wp2_with fail;go_ret;exact ⟨HK1.out.trans hk2,.inl ⟨HO.out,rfl,hw2⟩⟩
   ·have t1:(k==1)=false:=by rw [beq_eq_false_iff_ne];exact h1
    by_cases h2:k=2
    ·have hEe:E=if n=1 then bS else qad:=by rw [HE.out,if_neg h1,if_pos h2]
     subst h2;have hp:=qhW B b F X n w1 HW1.out (by omega);rw [←hEe] at hp;clear hEe;have HP:=zh hp;clear hp;have HO:=zh (hok.1 (by decide) (by decide));clear hok hq3 hq4;go_wp2_with fail;refine HP.out.mono ?_;rintro e w2 ⟨rfl,hw2,hk2⟩;go_wp2_with fail;go_ret;exact ⟨HK1.out.trans hk2,.inl ⟨HO.out,rfl,hw2⟩⟩
    ·have t2:(k==2)=false:=by rw [beq_eq_false_iff_ne];exact h2
     by_cases h3:k=3
     ·have hEe:E=qa3 n:=by rw [HE.out,if_neg h1,if_neg h2,if_pos h3]
      subst h3 hEe;have hn3:=hq3 rfl;have hpl:=Nu.qfo n;have hc:=fun w=>Nu.qcj n w (by omega) (by omega);have hp:=fun w2 h2=>bC B b F X (ae (qa3 n)) w2 h2 (by rw [aF];omega);rw [qag] at hp;have HP:=zh hp;clear hp;have HC:=zh hc;clear hc;have HO:=zh (hok.1 (by decide) (by decide));clear hok hq3 hq4 hpl;generalize qa3 n=Y at *;go_wp2_with fail;refine (HC.out _).mono ?_;rintro e w2 ⟨rfl,hb2⟩;have hw2:=HW1.out.keep hb2;have hk2:=HW1.out.kp hb2 (by omega);have HK2:=zh (HK1.out.trans hk2);clear hk2;have HP2:=zh (HP.out w2 hw2);clear hw2 hb2;go_wp2_with fail;refine HP2.out.mono ?_;rintro e w3 ⟨rfl,hw3,hk3⟩;go_wp2_with fail;go_ret;exact ⟨HK2.out.trans hk3,.inl ⟨HO.out,rfl,hw3⟩⟩
     ·have t3:(k==3)=false:=by rw [beq_eq_false_iff_ne];exact h3
      by_cases h4:k=4
      ·have hEe:E=qt s:=by rw [HE.out,if_neg h1,if_neg h2,if_neg h3,if_pos h4]
       subst h4 hEe;have hp:=qdN B b F X S w1 HW1.out (by omega) (by omega) (by omega);rw [hSd] at hp;have HP:=zh hp;clear hp;have HO:=zh (hok.1 (by decide) (by decide));have HO4:=zh (hq4 rfl);clear hok hq3 hq4;go_wp2_with fail;refine HP.out.mono ?_;rintro e w2 ⟨hk2,⟨_,rfl,hw2⟩ | ⟨hno,rfl⟩⟩
       ·go_wp2_with fail;go_ret;exact ⟨HK1.out.trans hk2,.inl ⟨HO.out,rfl,hw2⟩⟩
       ·exact absurd HO4.out hno
      ·have t4:(k==4)=false:=by rw [beq_eq_false_iff_ne];exact h4
       by_cases h5:k=5
       ·have hEe:E=EL:=by rw [HE.out,if_neg h1,if_neg h2,if_neg h3,if_neg h4,if_pos h5]
        subst h5 hEe;have hp:=CL.out F w1 HK1.out.1 HW1.out (by omega) (by omega);have HP:=zh hp;clear hp;have HO:=zh (hok.2.1 rfl);clear hok hq3 hq4;go_wp2_with fail;refine HP.out.mono ?_;rintro e w2 ⟨hk2,⟨hy,rfl,hw2⟩ | ⟨hno,rfl⟩⟩
        ·have HY:=zh hy;clear hy;go_wp2_with fail;go_ret;exact ⟨HK1.out.trans hk2,.inl ⟨HO.out.2 HY.out,rfl,hw2⟩⟩
        ·have HY:=zh hno;clear hno;go_wp2_with fail;go_ret;exact ⟨HK1.out.trans hk2,.inr ⟨fun h=>HY.out (HO.out.1 h),rfl⟩⟩
       ·have t5:(k==5)=false:=by rw [beq_eq_false_iff_ne];exact h5
        have h6:k=6:=by omega
        have hEe:E=EM:=by rw [HE.out,if_neg h1,if_neg h2,if_neg h3,if_neg h4,if_neg h5]
        subst h6 hEe;have hp:=CM.out F w1 HK1.out.1 HW1.out (by omega) (by omega);have HP:=zh hp;clear hp;have HO:=zh (hok.2.2 rfl);clear hok hq3 hq4;go_wp2_with fail;refine HP.out.mono ?_;rintro e w2 ⟨hk2,⟨hy,rfl,hw2⟩ | ⟨hno,rfl⟩⟩
        ·have HY:=zh hy;clear hy;go_wp2_with fail;go_ret;exact ⟨HK1.out.trans hk2,.inl ⟨HO.out.2 HY.out,rfl,hw2⟩⟩
        ·have HY:=zh hno;clear hno;go_wp2_with fail;go_ret;exact ⟨HK1.out.trans hk2,.inr ⟨fun h=>HY.out (HO.out.1 h),rfl⟩⟩
def qll (v:V) (w:World) (e:Ending) (w':World):Prop:=Below w.heap.size w w'∧((okW v∧e = .returned (.string (ae (emV v))))∨(¬okW v∧e = .returned (.string (ae []))))
theorem qib (v:V) (cs:List Value) (lo:Nat) (w:World) (hl:bv v) (hz:szU v≤1099511627776) (hR:RdA w lo w.heap.size v cs) :
  Calls Tryz.prog 37 #[.agg cs.toArray] w (qll v w):=by
 obtain ⟨A,c,A2,c2,e,_,_,_⟩:=hR.cells;have hel:=qeA v hl;have hv:=fun w1 (hb:Below w.heap.size w w1) h1=>qft lo w.heap.size w.heap.size (w.heap.size+1) (Nat.le_refl _) (ht v) v (Nat.le_refl _) hl hz cs (fun _=>False) [] w1 (hR.below hb (Nat.le_refl _) (Nat.le_refl _)) h1 hb.size (by simp;omega);rw [e] at hv ⊢;clear hR;generalize v.k=y1 at *;generalize v.n=y2 at *;generalize ae v.s=y3 at *;generalize v.l.length=y4 at *;generalize v.ms.length=y5 at *;have HV:=zh hv;clear hv;have hbx:=((Below.refl w.heap.size w).alloc (Nat.le_refl _) (.cells #[.int .i64 y1,.int .i64 y2,.string y3,.slice A y4 c,.slice A2 y5 c2] 25)).alloc (by simp) (.cells #[.slice none 0 0] 84);have hwt:Wtr w.heap.size (w.heap.size+1) (fun _=>False) [] ((w.alloc (.cells #[.int .i64 y1,.int .i64 y2,.string y3,.slice A y4 c,.slice A2 y5 c2] 25)).alloc (.cells #[.slice none 0 0] 84)):=by
  have:=heap_alloc_new (w.alloc (.cells #[.int .i64 y1,.int .i64 y2,.string y3,.slice A y4 c,.slice A2 y5 c2] 25)) (.cells #[.slice none 0 0] 84);rw [aj] at this;exact ⟨_,this,World.ownsRow_nil _ _ _ _,by omega,(fun h=>h),(fun _ _ h=>h),fun _ h=>absurd h (fun h=>h)⟩
 have hc:=HV.out _ hbx hwt;clear HV hwt hbx;have HC:=zh hc;clear hc;go_enter Tryz.func37,Tryz.ntmps37;go_wp2_with fail;refine HC.out.mono ?_;rintro e w1 ⟨hk,⟨hok,rfl,hw⟩ | ⟨hno,rfl⟩⟩
 ·have hbx:=((Below.refl w.heap.size w).alloc (Nat.le_refl _) (.cells #[.int .i64 y1,.int .i64 y2,.string y3,.slice A y4 c,.slice A2 y5 c2] 25)).alloc (by simp) (.cells #[.slice none 0 0] 84);have HB:=zh (hbx.trans hk.1);clear hbx hk;obtain ⟨vb,hb1,hown,_⟩:=hw;have c0:=(cell_of_row _ _ 0 _ _ _ hb1).trans rfl;have hcv:=(Rd.of_own hown).conv (P:=Tryz.prog) Tryz.underlying82 Tryz.underlying5 Tryz.underlying9
  have HO:=zh hok;clear hok;obtain ⟨A3,c3,rfl⟩:=qdu hown;rw [List.nil_append] at hcv c0;clear hown hb1;go_wp2_with fail;go_ret;exact ⟨HB.out,.inl ⟨HO.out,rfl⟩⟩
 ·have hbx:=((Below.refl w.heap.size w).alloc (Nat.le_refl _) (.cells #[.int .i64 y1,.int .i64 y2,.string y3,.slice A y4 c,.slice A2 y5 c2] 25)).alloc (by simp) (.cells #[.slice none 0 0] 84);have HB:=zh (hbx.trans hk.1);clear hbx hk;have HO:=zh hno;clear hno;go_wp2_with fail;go_ret;exact ⟨HB.out,.inr ⟨HO.out,rfl⟩⟩
def qkD (v:V):List UInt8:=if chk v=0 then emV v else []
def qja (v:V) (w:World) (e:Ending) (w':World):Prop:=e = .returned (.tuple #[.string (ae (qkD v)),.int .i64 (chk v)])∧Below w.heap.size w w'
theorem qjk (v:V) (cs:List Value) (lo:Nat) (w:World) (hl:bv v) (hz:szU v≤1099511627776) (hsz:szA 4611686018427387904 v) (hR:RdA w lo w.heap.size v cs) :
  Calls Tryz.prog 21 #[.agg cs.toArray] w (qja v w):=by
 obtain ⟨A,c,A2,c2,e,_,_,_⟩:=hR.cells;have hc:=fun w1 (hb:Below w.heap.size w w1)=>qgX v cs lo w1 hsz (hR.below hb (Nat.le_refl _) hb.size);have hg:=fun w1 (hb:Below w.heap.size w w1)=>qib v cs lo w1 hl hz (hR.below hb (Nat.le_refl _) hb.size);have hok:=fun h=>qkX (v:=v) h hl;rw [e] at hc hg ⊢;unfold qja qkD;clear hR;generalize chk v=y at *;generalize v.k=y1 at *;generalize v.n=y2 at *;generalize ae v.s=y3 at *;generalize v.l.length=y4 at *;generalize v.ms.length=y5 at *;have HC:=zh hc;clear hc;have HG:=zh hg;clear hg;have hbx:=(Below.refl w.heap.size w).alloc (Nat.le_refl _) (.cells #[.int .i64 y1,.int .i64 y2,.string y3,.slice A y4 c,.slice A2 y5 c2] 25);have HB:=zh hbx;clear hbx;have FE:∀ (j:Nat) u,([.int .i64 y1,.int .i64 y2,.string y3,.slice A y4 c,.slice A2 y5 c2]:List Value)[j]? = some u→(w.alloc (.cells #[.int .i64 y1,.int .i64 y2,.string y3,.slice A y4 c,.slice A2 y5 c2] 25)).cell? ⟨w.heap.size,j,none⟩=some u:=fun j u hu=>by
  rw [cell_of_row _ _ j _ _ _ (heap_alloc_new w _)]
  simpa using hu
 by_cases hy:y=0
 ·subst hy;have HO:=zh (hok rfl);clear hok;rw [if_pos rfl];go_enter Tryz.func21,Tryz.ntmps21;go_wp2_with fail;refine (HC.out _ HB.out).mono ?_;rintro e w1 ⟨rfl,hb1⟩;have hcell:∀ (j:Nat) u,([.int .i64 y1,.int .i64 y2,.string y3,.slice A y4 c,.slice A2 y5 c2]:List Value)[j]? = some u→w1.cell? ⟨w.heap.size,j,none⟩=some u:=fun j u hu=>(hb1.cell (p:=⟨w.heap.size,j,none⟩) (by simp)).trans (FE j u hu);have d0:=hcell 0 _ rfl;have d1:=hcell 1 _ rfl;have d2:=hcell 2 _ rfl;have d3:=hcell 3 _ rfl;have d4:=hcell 4 _ rfl;clear hcell FE;have HB1:=zh (HB.out.trans (hb1.mono (by simp)));clear hb1;go_wp2_with fail;refine (HG.out _ HB1.out).mono ?_;rintro e w2 ⟨hb2,⟨_,rfl⟩ | ⟨hno,rfl⟩⟩
  ·go_wp2_with fail;go_ret2
   exact ⟨rfl,HB1.out.trans (hb2.mono HB1.out.size)⟩
  ·exact absurd HO.out hno
 ·have t1:(y != 0)=true:=by rw [bne_iff_ne];exact hy
  rw [if_neg hy];clear hy hok;go_enter Tryz.func21,Tryz.ntmps21;go_wp2_with fail;refine (HC.out _ HB.out).mono ?_;rintro e w1 ⟨rfl,hb1⟩;have HB1:=zh (HB.out.trans (hb1.mono (by simp)));clear hb1 FE;go_wp2_with fail;go_ret2
  exact ⟨rfl,HB1.out⟩
end Em
namespace Po
open Go.Proofs Go.RowKit Utf Sc Em
def aI (ps:List (List UInt8)):List Value:=ps.map fun q=> .string (ae q)
theorem bi (ps:List (List UInt8)):(aI ps).length=ps.length:=by unfold aI;simp
theorem qac (ps:List (List UInt8)) (k:Nat) (h:k<ps.length):(aI ps)[k]? = some (.string (ae ps[k])):=by
 unfold aI;rw [List.getElem?_map,List.getElem?_eq_getElem h];rfl
