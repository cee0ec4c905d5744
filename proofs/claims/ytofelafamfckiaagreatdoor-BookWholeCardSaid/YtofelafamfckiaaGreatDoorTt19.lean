/- Merged: RaA. -/
import Derived.Test.YtofelafamfckiaaGreatDoorTt15
import Derived.Test.YtofelafamfckiaaGreatDoorTt12
set_option maxRecDepth 100000
set_option maxHeartbeats 16000000
namespace Go.Proofs.YtofelafamfckiaaGreatDoor
namespace Re
open Go.RowKit Utf Sc
theorem qhB (h:Nat):∀ (a b:V) (ca cb:List Value) (w:World),ht a≤h→szA 4611686018427387904 a→RdA w 0 w.heap.size a ca→RdA w 0 w.heap.size b cb→
  Calls Tryz.prog 13 #[.agg ca.toArray,.agg cb.toArray] w (qet (a=b) w):=by
 induction h with
 | zero=>intro a b ca cb w hh;rw [qam] at hh;omega
 | succ h ih=>
  intro a b ca cb w hh hcnt ra rb;obtain ⟨A1,c1,A2,c2,rfl,hna,hla,hma⟩:=ra.cells;obtain ⟨B1,d1,B2,d2,rfl,hnb,hlb,hmb⟩:=rb.cells;have hE:a=b↔(a.k=b.k∧a.n=b.n∧a.s=b.s∧a.l=b.l∧a.ns=b.ns∧a.ms=b.ms):=⟨fun e=>by subst e;exact ⟨rfl,rfl,rfl,rfl,rfl,rfl⟩,fun ⟨h1,h2,h3,h4,h5,h6⟩=>V.ext' h1 h2 h3 h4 h5 h6⟩
  generalize (a=b)=Q at hE ⊢;obtain ⟨_,_,_,hz4,hz5,_,hz7,hz8⟩:=(bL _ a).1 hcnt;have hht:=qam a;have ihl:∀ v∈a.l,∀ (b:V) (ca cb:List Value) (w:World),RdA w 0 w.heap.size v ca→RdA w 0 w.heap.size b cb→Calls Tryz.prog 13 #[.agg ca.toArray,.agg cb.toArray] w (qet (v=b) w):=fun v hv b ca cb w=>ih v b ca cb w (by have:=bt hv;omega) (aU hz7 hv);have ihm:∀ v∈a.ms,∀ (b:V) (ca cb:List Value) (w:World),RdA w 0 w.heap.size v ca→RdA w 0 w.heap.size b cb→Calls Tryz.prog 13 #[.agg ca.toArray,.agg cb.toArray] w (qet (v=b) w):=fun v hv b ca cb w=>ih v b ca cb w (by have:=bt hv;omega) (aU hz8 hv);clear ih ra rb hht hh hcnt hz7 hz8;have hsal:(a.l.length:Nat)≤4611686018427387904:=by omega
  have hsam:(a.ms.length:Nat)≤4611686018427387904:=by omega
  clear hz4 hz5;obtain ⟨ak,an,sa,al,ans,ams⟩:=a;obtain ⟨bk,bn,sb,bl,bns,bms⟩:=b;simp only [V.k,V.n,V.s,V.l,V.ns,V.ms] at *;have hss:((ae sa).toList=(ae sb).toList)↔sa=sb:=by rw [aA,aA]
  generalize ae sa=X at *;generalize ae sb=Y at *;have HSS:=zh hss;clear hss;have IL:=zh ihl;clear ihl;have IM:=zh ihm;clear ihm;have HE:=zh hE;clear hE;have HLA:=zh hla;clear hla;have HLB:=zh hlb;clear hlb;have HMA:=zh hma;clear hma;have HMB:=zh hmb;clear hmb;by_cases e1:ak=bk
  ·subst e1;by_cases e2:an=bn
   ·subst e2;by_cases e3:X.toList=Y.toList
    ·have t3:(X.toList != Y.toList)=false:=by rw [bne_eq_false_iff_eq];exact e3
     have t3b:(X.toList==Y.toList)=true:=by rw [beq_iff_eq];exact e3
     have K3:=zh (HSS.out.1 e3);clear e3;by_cases e4:al.length=bl.length
     ·by_cases e5:ams.length=bms.length
      ·obtain ⟨nl,hnl⟩:∃ n,al.length=n:=⟨_,rfl⟩
       obtain ⟨nm,hnm⟩:∃ n,ams.length=n:=⟨_,rfl⟩
       have hnl2:bl.length=nl:=by omega
       have hnm2:bms.length=nm:=by omega
       rw [hnl,hnm,hnl2,hnm2];rw [hnl] at hsal;rw [hnm] at hsam;have HN1:=zh hnl;have HN2:=zh hnl2;have HN3:=zh hnm;have HN4:=zh hnm2;have HN5:=zh hna;have HN6:=zh hnb;have HLA:=zh (fun h=>HLA.out (by rw [hnl];exact h));have HLB:=zh (fun h=>HLB.out (by rw [hnl2];exact h));have HMA:=zh (fun h=>HMA.out (by rw [hnm];exact h));have HMB:=zh (fun h=>HMB.out (by rw [hnm2];exact h));clear e4 e5 hnl hnm hnl2 hnm2 hna hnb;obtain ⟨w0,hw0⟩:∃ w0,w0=((w.alloc (.cells #[.int .i64 ak,.int .i64 an,.string X,.slice A1 nl c1,.slice A2 nm c2] 25)).alloc (.cells #[.int .i64 ak,.int .i64 an,.string Y,.slice B1 nl d1,.slice B2 nm d2] 25)):=⟨_,rfl⟩
       have FA:∀ (j:Nat) u,([.int .i64 ak,.int .i64 an,.string X,.slice A1 nl c1,.slice A2 nm c2]:List Value)[j]? = some u→w0.cell? ⟨w.heap.size,j,none⟩=some u:=fun j u hu=>by
        have h1:w0.heap[w.heap.size]? = some (.cells #[.int .i64 ak,.int .i64 an,.string X,.slice A1 nl c1,.slice A2 nm c2] 25 (0,0)):=by rw [hw0,heap_alloc_old _ _ (by simp)];exact heap_alloc_new w _
        rw [cell_of_row _ _ j _ _ _ h1]
        simpa using hu
       have FB:∀ (j:Nat) u,([.int .i64 ak,.int .i64 an,.string Y,.slice B1 nl d1,.slice B2 nm d2]:List Value)[j]? = some u→w0.cell? ⟨w.heap.size+1,j,none⟩=some u:=fun j u hu=>by
        have h1:w0.heap[w.heap.size+1]? = some (.cells #[.int .i64 ak,.int .i64 an,.string Y,.slice B1 nl d1,.slice B2 nm d2] 25 (0,0)):=by
         have:=heap_alloc_new (w.alloc (.cells #[.int .i64 ak,.int .i64 an,.string X,.slice A1 nl c1,.slice A2 nm c2] 25)) (.cells #[.int .i64 ak,.int .i64 an,.string Y,.slice B1 nl d1,.slice B2 nm d2] 25);rw [qd2] at this;rw [hw0];exact this
        rw [cell_of_row _ _ j _ _ _ h1]
        simpa using hu
       have BB:∀ w',Below (w.heap.size+2) w0 w'→Below w.heap.size w w':=fun w' hb=>(((Below.refl w.heap.size w).alloc (Nat.le_refl _) _).alloc (by simp) _).trans (by rw [hw0] at hb;exact hb.mono (by omega));have HSW:=zh (show w0.heap.size=w.heap.size+1+1 by rw [hw0,qd2,qd2]);have HW0:=zh hw0;clear hw0;go_enter Tryz.func13,Tryz.ntmps13;go_wp2_with fail;go_loopw [5] (fun i wr=>∃ k:Nat,i = .int .i64 k∧k≤nl∧(∀ j (h1:j<al.length) (h2:j<bl.length),j<k→al[j]=bl[j])∧Below (w.heap.size+2) w0 wr) (fun i _=>nl-(intOf i).toNat)
       case atStart=>exact ⟨0,rfl,by omega,fun j _ _ h=>by omega,(by rw [HW0.out];exact Below.refl _ _)⟩
       case round=>
        obtain ⟨k,rfl,hk,hall,hbel0⟩:=hrel;have HALL:=zh hall;clear hall;have hbel2:Below (w.heap.size+2) w0 wr:=hbel0;have hsz:=hbel2.size;rw [HSW.out] at hsz;have hbel:Below w.heap.size w wr:=BB _ hbel2;have f1:wr.cell? ⟨w.heap.size,3,none⟩=some (.slice A1 nl c1):=(hbel2.cell (p:=⟨w.heap.size,3,none⟩) (by show w.heap.size<_;omega)).trans (FA 3 _ rfl);have f2:wr.cell? ⟨w.heap.size+1,3,none⟩=some (.slice B1 nl d1):=(hbel2.cell (p:=⟨w.heap.size+1,3,none⟩) (by show w.heap.size+1<_;omega)).trans (FB 3 _ rfl);by_cases hlt0:k<nl
        ·have hlt:k<al.length:=by rw [HN1.out];exact hlt0
         have hlt2:k<bl.length:=by rw [HN2.out];exact hlt0
         have hlb:decide ((k:Int)<(nl:Int))=true:=zT (by omega);have hlb2:decide (k<nl)=true:=zT hlt0;have k0:(0:Int)≤(k:Int):=by omega
         have k1:(k:Int)<(nl:Int):=by omega
         obtain ⟨g,o1,e1,_,hg,hR⟩:=HLA.out (by omega);obtain ⟨g',o2,e2,_,hg',hR'⟩:=HLB.out (by omega);subst e1 e2;obtain ⟨xa,hxa,hva⟩:=aN.at_ _ o1 hR k hlt;obtain ⟨xb,hxb,hvb⟩:=aN.at_ _ o2 hR' k hlt2;have hmem:al[k]∈al:=List.getElem_mem hlt;have hc:=fun w0 (hw:Below w.heap.size w w0)=>IL.out _ hmem bl[k] xa xb w0 (hva.below hw (Nat.le_refl _) hw.size) (hvb.below hw (Nat.le_refl _) hw.size);obtain ⟨p1,p2,p3,p4,ea,_⟩:=hva.cells;obtain ⟨r1,r2,r3,r4,eb,_⟩:=hvb.cells;rw [ea] at hc hxa;rw [eb] at hc hxb;have a0:=(hbel.cell (p:=⟨g,o1+k*5,none⟩) hg).trans (hxa 0 _ rfl);have a1:=(hbel.cell (p:=⟨g,o1+k*5+1,none⟩) hg).trans (hxa 1 _ rfl);have a2:=(hbel.cell (p:=⟨g,o1+k*5+2,none⟩) hg).trans (hxa 2 _ rfl);have a3:=(hbel.cell (p:=⟨g,o1+k*5+3,none⟩) hg).trans (hxa 3 _ rfl);have a4:=(hbel.cell (p:=⟨g,o1+k*5+4,none⟩) hg).trans (hxa 4 _ rfl);have b0:=(hbel.cell (p:=⟨g',o2+k*5,none⟩) hg').trans (hxb 0 _ rfl);have b1:=(hbel.cell (p:=⟨g',o2+k*5+1,none⟩) hg').trans (hxb 1 _ rfl);have b2:=(hbel.cell (p:=⟨g',o2+k*5+2,none⟩) hg').trans (hxb 2 _ rfl);have b3:=(hbel.cell (p:=⟨g',o2+k*5+3,none⟩) hg').trans (hxb 3 _ rfl);have b4:=(hbel.cell (p:=⟨g',o2+k*5+4,none⟩) hg').trans (hxb 4 _ rfl);generalize hq1:al[k]=va at *;generalize hq2:bl[k]=vb at *;generalize va.k=x1 at *;generalize va.n=y1 at *;generalize ae va.s=S1 at *;generalize vb.k=x2 at *;generalize vb.n=y2 at *;generalize ae vb.s=S2 at *;generalize (Value.slice p1 va.l.length p2)=V1 at *;generalize (Value.slice p3 va.ms.length p4)=U1 at *;generalize (Value.slice r1 vb.l.length r2)=V2 at *;generalize (Value.slice r3 vb.ms.length r4)=U2 at *;have hbd:Below w.heap.size w wr.drew:=hbel.drew;have HC:=zh (fun w0 (e:w0=wr.drew)=>hc w0 (by rw [e];exact hbd));have HQ1:=zh hq1;have HQ2:=zh hq2;clear hc hq1 hq2 hva hvb hR hR' hxa hxb ea eb hmem hbel2;go_wp2_with fail;go_region_held3 (fun w'=>w'.cell? ⟨w.heap.size,3,none⟩=some (.slice (some ⟨g,o1,none⟩) nl c1)∧w'.cell? ⟨w.heap.size+1,3,none⟩=some (.slice (some ⟨g',o2,none⟩) nl d1)∧w'.cell? ⟨g,o1+k*5,none⟩=some (.int .i64 x1)∧w'.cell? ⟨g,o1+k*5+1,none⟩=some (.int .i64 y1)∧w'.cell? ⟨g,o1+k*5+2,none⟩=some (.string S1)∧w'.cell? ⟨g,o1+k*5+3,none⟩=some (V1)∧w'.cell? ⟨g,o1+k*5+4,none⟩=some (U1)∧w'.cell? ⟨g',o2+k*5,none⟩=some (.int .i64 x2)∧w'.cell? ⟨g',o2+k*5+1,none⟩=some (.int .i64 y2)∧w'.cell? ⟨g',o2+k*5+2,none⟩=some (.string S2)∧w'.cell? ⟨g',o2+k*5+3,none⟩=some (V2)∧w'.cell? ⟨g',o2+k*5+4,none⟩=some (U2))
          (first | go_keep | exact ⟨(hb5.cell (p:=⟨w.heap.size,3,none⟩) (by show w.heap.size<_;simp;omega)).trans f1,(hb5.cell (p:=⟨w.heap.size+1,3,none⟩) (by show w.heap.size+1<_;simp;omega)).trans f2,(hb5.cell (p:=⟨g,o1+k*5,none⟩) (by show g<_;simp;omega)).trans a0,(hb5.cell (p:=⟨g,o1+k*5+1,none⟩) (by show g<_;simp;omega)).trans a1,(hb5.cell (p:=⟨g,o1+k*5+2,none⟩) (by show g<_;simp;omega)).trans a2,(hb5.cell (p:=⟨g,o1+k*5+3,none⟩) (by show g<_;simp;omega)).trans a3,(hb5.cell (p:=⟨g,o1+k*5+4,none⟩) (by show g<_;simp;omega)).trans a4,(hb5.cell (p:=⟨g',o2+k*5,none⟩) (by show g'<_;simp;omega)).trans b0,(hb5.cell (p:=⟨g',o2+k*5+1,none⟩) (by show g'<_;simp;omega)).trans b1,(hb5.cell (p:=⟨g',o2+k*5+2,none⟩) (by show g'<_;simp;omega)).trans b2,(hb5.cell (p:=⟨g',o2+k*5+3,none⟩) (by show g'<_;simp;omega)).trans b3,(hb5.cell (p:=⟨g',o2+k*5+4,none⟩) (by show g'<_;simp;omega)).trans b4⟩)
          ((go_at_call 13;refine (HC.out _ rfl).mono ?_;rintro e w5 ⟨⟨b,rfl,hb⟩,hb5⟩))
         have hB5:Below (w.heap.size+2) w0 w5:=(hbel0.drew).trans (hb5.mono (by simp;omega));cases b
         ·have hne:¬va=vb:=fun h=>by have:=hb.2 h;cases this
          have HNE:=zh hne;clear hb hb5 hne;go_wp2_with fail;go_ret;refine ⟨⟨false,rfl,by simp,fun h=>?_⟩,BB _ hB5⟩;have h2:=(HE.out.1 h)
          have h3:al[k]=bl[k]:=by simp only [h2.2.2.2.1]
          rw [HQ1.out,HQ2.out] at h3;exact absurd h3 HNE.out
         ·have heq:va=vb:=hb.1 rfl;have HEQ:=zh heq;clear hb hb5 heq;go_wp2_with fail;go_roundw
          case rel=>
           refine ⟨k+1,by go_num,by omega,fun j h1 h2 hj=>?_,hB5⟩;rcases Nat.lt_or_ge j k with hjk | hjk
           ·exact HALL.out j h1 h2 hjk
           ·obtain rfl:j=k:=by omega
            exact HQ1.out.trans (HEQ.out.trans HQ2.out.symm)
          case measure=>simp [intOf];omega
        ·obtain rfl:nl=k:=by omega
         have hlb:decide ((nl:Int)<(nl:Int))=false:=zF (by omega);have hlq:al=bl:=List.ext_getElem (HN1.out.trans HN2.out.symm) fun j h1 h2=>HALL.out j h1 h2 (by rw [←HN1.out];exact h1);have HLQ:=zh hlq;clear hlq;obtain ⟨w1,hw1⟩:∃ w1,w1=wr:=⟨_,rfl⟩
         have hbel1:Below (w.heap.size+2) w0 w1:=by rw [hw1];exact hbel2
         rw [←hw1] at f1 f2 ⊢;clear hbel hbel2 hbel0 hw1 HALL;go_wp2_with fail;go_loopw [6] (fun i wr=>∃ k:Nat,i = .int .i64 k∧k≤nm∧(∀ j (h1:j<ams.length) (h2:j<bms.length),j<k→ams[j]=bms[j]∧ans.getD j []=bns.getD j [])∧Below (w.heap.size+2) w1 wr) (fun i _=>nm-(intOf i).toNat)
         case atStart=>exact ⟨0,rfl,by omega,fun j _ _ h=>by omega,Below.refl _ _⟩
         case round=>
          obtain ⟨k,rfl,hk,hall,hbel0⟩:=hrel;have HALL:=zh hall;clear hall;have hbel2:Below (w.heap.size+2) w0 wr:=hbel1.trans hbel0;have hsz:=hbel2.size;rw [HSW.out] at hsz;have hbel:Below w.heap.size w wr:=BB _ hbel2;have f1:wr.cell? ⟨w.heap.size,4,none⟩=some (.slice A2 nm c2):=(hbel2.cell (p:=⟨w.heap.size,4,none⟩) (by show w.heap.size<_;omega)).trans (FA 4 _ rfl);have f2:wr.cell? ⟨w.heap.size+1,4,none⟩=some (.slice B2 nm d2):=(hbel2.cell (p:=⟨w.heap.size+1,4,none⟩) (by show w.heap.size+1<_;omega)).trans (FB 4 _ rfl);by_cases hlt0:k<nm
          ·have hlt:k<ams.length:=by rw [HN3.out];exact hlt0
           have hlt2:k<bms.length:=by rw [HN4.out];exact hlt0
           have hlb:decide ((k:Int)<(nm:Int))=true:=zT (by omega);have hlb2:decide (k<nm)=true:=zT hlt0;have k0:(0:Int)≤(k:Int):=by omega
           have k1:(k:Int)<(nm:Int):=by omega
           obtain ⟨g,o1,e1,_,hg,hR⟩:=HMA.out (by omega);obtain ⟨g',o2,e2,_,hg',hR'⟩:=HMB.out (by omega);subst e1 e2;have q1:k<ans.length:=by rw [HN5.out];exact hlt
           have q2:k<bns.length:=by rw [HN6.out];exact hlt2
           obtain ⟨n1,xa,hxa,hva⟩:=aL.at_ _ _ o1 hR k hlt q1;obtain ⟨n2,xb,hxb,hvb⟩:=aL.at_ _ _ o2 hR' k hlt2 q2;have n1:=(hbel.cell (p:=⟨g,o1+k*6,none⟩) hg).trans n1;have n2:=(hbel.cell (p:=⟨g',o2+k*6,none⟩) hg').trans n2;have N0:ans.getD k []=ans[k]:=by rw [List.getD_eq_getElem?_getD,List.getElem?_eq_getElem q1];rfl
           have N00:bns.getD k []=bns[k]:=by rw [List.getD_eq_getElem?_getD,List.getElem?_eq_getElem q2];rfl
           have hnn:((ae ans[k]).toList=(ae bns[k]).toList)↔ans.getD k []=bns.getD k []:=by rw [aA,aA,N0,N00]
           have HNN:=zh hnn;clear hnn N0 N00;have hmem:ams[k]∈ams:=List.getElem_mem hlt;have hc:=fun w0 (hw:Below w.heap.size w w0)=>IM.out _ hmem bms[k] xa xb w0 (hva.below hw (Nat.le_refl _) hw.size) (hvb.below hw (Nat.le_refl _) hw.size);obtain ⟨p1,p2,p3,p4,ea,_⟩:=hva.cells;obtain ⟨r1,r2,r3,r4,eb,_⟩:=hvb.cells;rw [ea] at hc hxa;rw [eb] at hc hxb;have a0:=(hbel.cell (p:=⟨g,o1+k*6+1,none⟩) hg).trans (hxa 0 _ rfl);have a1:=(hbel.cell (p:=⟨g,o1+k*6+2,none⟩) hg).trans (hxa 1 _ rfl);have a2:=(hbel.cell (p:=⟨g,o1+k*6+3,none⟩) hg).trans (hxa 2 _ rfl);have a3:=(hbel.cell (p:=⟨g,o1+k*6+4,none⟩) hg).trans (hxa 3 _ rfl);have a4:=(hbel.cell (p:=⟨g,o1+k*6+5,none⟩) hg).trans (hxa 4 _ rfl);have b0:=(hbel.cell (p:=⟨g',o2+k*6+1,none⟩) hg').trans (hxb 0 _ rfl);have b1:=(hbel.cell (p:=⟨g',o2+k*6+2,none⟩) hg').trans (hxb 1 _ rfl);have b2:=(hbel.cell (p:=⟨g',o2+k*6+3,none⟩) hg').trans (hxb 2 _ rfl);have b3:=(hbel.cell (p:=⟨g',o2+k*6+4,none⟩) hg').trans (hxb 3 _ rfl);have b4:=(hbel.cell (p:=⟨g',o2+k*6+5,none⟩) hg').trans (hxb 4 _ rfl);generalize hq1:ams[k]=va at *;generalize hq2:bms[k]=vb at *;generalize va.k=x1 at *;generalize va.n=y1 at *;generalize ae va.s=S1 at *;generalize vb.k=x2 at *;generalize vb.n=y2 at *;generalize ae vb.s=S2 at *;generalize (Value.slice p1 va.l.length p2)=V1 at *;generalize (Value.slice p3 va.ms.length p4)=U1 at *;generalize (Value.slice r1 vb.l.length r2)=V2 at *;generalize (Value.slice r3 vb.ms.length r4)=U2 at *;generalize ae ans[k]=N1 at *;generalize ae bns[k]=N2 at *;have hbd:Below w.heap.size w wr.drew:=hbel.drew;have HC:=zh (fun w0 (e:w0=wr.drew)=>hc w0 (by rw [e];exact hbd));have HQ1:=zh hq1;have HQ2:=zh hq2;clear hc hq1 hq2 hva hvb hR hR' hxa hxb ea eb hmem hbel2;by_cases hnm:N1.toList=N2.toList
           ·have m1:(N1.toList != N2.toList)=false:=by rw [bne_eq_false_iff_eq];exact hnm
            have m2:(N1.toList==N2.toList)=true:=by rw [beq_iff_eq];exact hnm
            have HNK:=zh (HNN.out.1 hnm);clear hnm;go_wp2_with fail;go_region_held3 (fun w'=>w'.cell? ⟨w.heap.size,4,none⟩=some (.slice (some ⟨g,o1,none⟩) nm c2)∧w'.cell? ⟨w.heap.size+1,4,none⟩=some (.slice (some ⟨g',o2,none⟩) nm d2)∧w'.cell? ⟨g,o1+k*6,none⟩=some (.string N1)∧w'.cell? ⟨g',o2+k*6,none⟩=some (.string N2)∧w'.cell? ⟨g,o1+k*6+1,none⟩=some (.int .i64 x1)∧w'.cell? ⟨g,o1+k*6+2,none⟩=some (.int .i64 y1)∧w'.cell? ⟨g,o1+k*6+3,none⟩=some (.string S1)∧w'.cell? ⟨g,o1+k*6+4,none⟩=some (V1)∧w'.cell? ⟨g,o1+k*6+5,none⟩=some (U1)∧w'.cell? ⟨g',o2+k*6+1,none⟩=some (.int .i64 x2)∧w'.cell? ⟨g',o2+k*6+2,none⟩=some (.int .i64 y2)∧w'.cell? ⟨g',o2+k*6+3,none⟩=some (.string S2)∧w'.cell? ⟨g',o2+k*6+4,none⟩=some (V2)∧w'.cell? ⟨g',o2+k*6+5,none⟩=some (U2))
             (first | go_keep | exact ⟨(hb5.cell (p:=⟨w.heap.size,4,none⟩) (by show w.heap.size<_;simp;omega)).trans f1,(hb5.cell (p:=⟨w.heap.size+1,4,none⟩) (by show w.heap.size+1<_;simp;omega)).trans f2,(hb5.cell (p:=⟨g,o1+k*6,none⟩) (by show g<_;simp;omega)).trans n1,(hb5.cell (p:=⟨g',o2+k*6,none⟩) (by show g'<_;simp;omega)).trans n2,(hb5.cell (p:=⟨g,o1+k*6+1,none⟩) (by show g<_;simp;omega)).trans a0,(hb5.cell (p:=⟨g,o1+k*6+2,none⟩) (by show g<_;simp;omega)).trans a1,(hb5.cell (p:=⟨g,o1+k*6+3,none⟩) (by show g<_;simp;omega)).trans a2,(hb5.cell (p:=⟨g,o1+k*6+4,none⟩) (by show g<_;simp;omega)).trans a3,(hb5.cell (p:=⟨g,o1+k*6+5,none⟩) (by show g<_;simp;omega)).trans a4,(hb5.cell (p:=⟨g',o2+k*6+1,none⟩) (by show g'<_;simp;omega)).trans b0,(hb5.cell (p:=⟨g',o2+k*6+2,none⟩) (by show g'<_;simp;omega)).trans b1,(hb5.cell (p:=⟨g',o2+k*6+3,none⟩) (by show g'<_;simp;omega)).trans b2,(hb5.cell (p:=⟨g',o2+k*6+4,none⟩) (by show g'<_;simp;omega)).trans b3,(hb5.cell (p:=⟨g',o2+k*6+5,none⟩) (by show g'<_;simp;omega)).trans b4⟩)
             ((go_at_call 13;refine (HC.out _ rfl).mono ?_;rintro e w5 ⟨⟨b,rfl,hb⟩,hb5⟩))
            have hB5:Below (w.heap.size+2) w1 w5:=(hbel0.drew).trans (hb5.mono (by simp;omega));cases b
            ·have hne:¬va=vb:=fun h=>by have:=hb.2 h;cases this
             have HNE:=zh hne;clear hb hb5 hne;go_wp2_with fail;go_ret;refine ⟨⟨false,rfl,by simp,fun h=>?_⟩,BB _ (hbel1.trans hB5)⟩;have h2:=(HE.out.1 h)
             have h3:ams[k]=bms[k]:=by simp only [h2.2.2.2.2.2]
             rw [HQ1.out,HQ2.out] at h3;exact absurd h3 HNE.out
            ·have heq:va=vb:=hb.1 rfl;have HEQ:=zh heq;clear hb hb5 heq;go_wp2_with fail;go_roundw
             case rel=>
              refine ⟨k+1,by go_num,by omega,fun j h1 h2 hj=>?_,hB5⟩;rcases Nat.lt_or_ge j k with hjk | hjk
              ·exact HALL.out j h1 h2 hjk
              ·obtain rfl:j=k:=by omega
               exact ⟨HQ1.out.trans (HEQ.out.trans HQ2.out.symm),HNK.out⟩
             case measure=>simp [intOf];omega
           ·have m1:(N1.toList != N2.toList)=true:=by rw [bne_iff_ne];exact hnm
            have m2:(N1.toList==N2.toList)=false:=by rw [beq_eq_false_iff_ne];exact hnm
            have HNK:=zh (fun h=>hnm (HNN.out.2 h));clear hnm;go_wp2_with fail;go_quiet (fail)
            go_wp2_with fail;go_ret;refine ⟨⟨false,rfl,by simp,fun h=>?_⟩,below_drewN hbel _⟩;exact absurd (by rw [(HE.out.1 h).2.2.2.2.1]) HNK.out
          ·obtain rfl:nm=k:=by omega
           have hlb:decide ((nm:Int)<(nm:Int))=false:=zF (by omega);go_wp2_with fail;go_ret;have l3:=HN3.out;have l4:=HN4.out;have l5:=HN5.out;have l6:=HN6.out;refine ⟨⟨true,rfl,fun _=>HE.out.2 ⟨by trivial,by trivial,K3.out,HLQ.out,?_,?_⟩,fun _=>rfl⟩,hbel⟩
           ·refine List.ext_getElem (by omega) fun j h1 h2=>?_;have:=(HALL.out j (by omega) (by omega) (by omega)).2;rwa [List.getD_eq_getElem?_getD,List.getD_eq_getElem?_getD,List.getElem?_eq_getElem h1,List.getElem?_eq_getElem h2] at this
           ·exact List.ext_getElem (l3.trans l4.symm) fun j h1 h2=>(HALL.out j h1 h2 (by omega)).1
      ·have t5:((ams.length:Int) != (bms.length:Int))=true:=by rw [bne_iff_ne];omega
       go_enter Tryz.func13,Tryz.ntmps13;go_wp2_with fail;go_ret;exact ⟨⟨false,rfl,by simp,fun h=>(e5 (by rw [(HE.out.1 h).2.2.2.2.2])).elim⟩,((Below.refl _ _).alloc (Nat.le_refl _) _).alloc (by simp) _⟩
     ·have t4:((al.length:Int) != (bl.length:Int))=true:=by rw [bne_iff_ne];omega
      go_enter Tryz.func13,Tryz.ntmps13;go_wp2_with fail;go_ret;exact ⟨⟨false,rfl,by simp,fun h=>(e4 (by rw [(HE.out.1 h).2.2.2.1])).elim⟩,((Below.refl _ _).alloc (Nat.le_refl _) _).alloc (by simp) _⟩
    ·have t3:(X.toList != Y.toList)=true:=by rw [bne_iff_ne];exact e3
     have t3b:(X.toList==Y.toList)=false:=by rw [beq_eq_false_iff_ne];exact e3
     have K3:=zh (fun h=>e3 (HSS.out.2 h));go_enter Tryz.func13,Tryz.ntmps13;go_wp2_with fail;go_ret;exact ⟨⟨false,rfl,by simp,fun h=>(K3.out (HE.out.1 h).2.2.1).elim⟩,((Below.refl _ _).alloc (Nat.le_refl _) _).alloc (by simp) _⟩
   ·have t2:(an != bn)=true:=by rw [bne_iff_ne];exact e2
    go_enter Tryz.func13,Tryz.ntmps13;go_wp2_with fail;go_ret;exact ⟨⟨false,rfl,by simp,fun h=>absurd (HE.out.1 h).2.1 e2⟩,((Below.refl _ _).alloc (Nat.le_refl _) _).alloc (by simp) _⟩
  ·have t1:(ak != bk)=true:=by rw [bne_iff_ne];exact e1
   go_enter Tryz.func13,Tryz.ntmps13;go_wp2_with fail;go_ret;exact ⟨⟨false,rfl,by simp,fun h=>absurd (HE.out.1 h).1 e1⟩,((Below.refl _ _).alloc (Nat.le_refl _) _).alloc (by simp) _⟩
