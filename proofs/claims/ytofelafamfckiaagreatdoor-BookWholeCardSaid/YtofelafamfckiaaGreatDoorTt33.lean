/- Merged: TrN. -/
import Derived.Test.YtofelafamfckiaaGreatDoorTt32
set_option maxRecDepth 100000
set_option maxHeartbeats 600000
namespace Go.Proofs.YtofelafamfckiaaGreatDoor
namespace Tr
open Go.Proofs Go.RowKit Go.Lib Utf Sc Re
theorem qmf {w:World} {hi:Nat} {A:Option Addr} {l:List V} (h:0<l.length→∃ g o,A=some ⟨g,o,none⟩∧0≤g∧g<hi∧aN w 0 hi g o l) :
  ∃ rows:List (List Value),rows.length=l.length∧(∀ r∈rows,r.length=5)∧(∀ r∈rows,∀ u∈r,u.oneCell'=true)∧(0<l.length→∃ g o,A=some ⟨g,o,none⟩∧g<hi∧∀ j u,rows.flatten[j]? = some u→w.cell? ⟨g,o+j,none⟩=some u)∧∀ k (h1:k<l.length) (h2:k<rows.length),RdA w 0 hi l[k] rows[k]:=by
 by_cases h0:0<l.length
 ·obtain ⟨g,o,e,_,g2,hr⟩:=h h0;obtain ⟨rows,p1,p2,p3,p4⟩:=qk8 hr;exact ⟨rows,p1,p2.1,p3,fun _=>⟨g,o,e,g2,qb4 (by omega) p2⟩,p4⟩
 ·exact ⟨[],by simp;omega,(fun r h=>by cases h),(fun r h=>by cases h),fun h=>absurd h h0,fun k h=>by omega⟩
theorem qld {w:World} {hi:Nat} {A:Option Addr} {ns:List (List UInt8)} {l:List V} (hn:ns.length=l.length) (h:0<l.length→∃ g o,A=some ⟨g,o,none⟩∧0≤g∧g<hi∧aL w 0 hi g o ns l) :
  ∃ rows:List (List Value),rows.length=l.length∧(∀ r∈rows,r.length=6)∧(∀ r∈rows,∀ u∈r,u.oneCell'=true)∧(0<l.length→∃ g o,A=some ⟨g,o,none⟩∧g<hi∧∀ j u,rows.flatten[j]? = some u→w.cell? ⟨g,o+j,none⟩=some u)∧∀ k (h1:k<l.length) (h2:k<rows.length) (h3:k<ns.length),∃ cs,rows[k] = .string (ae ns[k])::cs∧RdA w 0 hi l[k] cs:=by
 by_cases h0:0<l.length
 ·obtain ⟨g,o,e,_,g2,hr⟩:=h h0;obtain ⟨rows,p1,p2,p3,p4⟩:=qmB hn hr;exact ⟨rows,p1,p2.1,p3,fun _=>⟨g,o,e,g2,qb4 (by omega) p2⟩,p4⟩
 ·exact ⟨[],by simp;omega,(fun r h=>by cases h),(fun r h=>by cases h),fun h=>absurd h h0,fun k h=>by omega⟩
def qjA (R:Act→World→Prop):Exit→Act→World→Prop
 | .normal,a,w=>R a w
 | _,_,_=>False
theorem qjA.out {R:Act→World→Prop} {e:Exit} {a:Act} {w:World} (h:qjA R e a w):e = .normal∧R a w:=by
 cases e <;> first | exact ⟨rfl,h⟩ | exact (h:False).elim
structure Mid (w:World) (k n:Int) (S:ByteArray) (l m:Nat) (rL rM:List (List Value)) (A1 A2:Option Addr) (c1 c2 N:Nat) (w':World):Prop where
 var:w'.heap[w.heap.size]? = some (.cells #[.int .i64 k,.int .i64 n,.string S,.slice A1 l c1,.slice A2 m c2] 25 (0,0))
 res:w'.heap[w.heap.size+1]? = some (.cells #[.int .i64 0,.int .i64 0,.string ⟨#[]⟩,.slice none 0 0,.slice none 0 0] 25 (0,0))
 bel:Below w.heap.size w w'
 lo:w.heap.size+2≤N∧N≤w'.heap.size
 ls:0<l→∃ g,A1=some ⟨g,0,none⟩∧w.heap.size+2≤g∧g<N∧az w' g 0 rL.flatten
 ms:0<m→∃ g,A2=some ⟨g,0,none⟩∧N≤g∧g<w'.heap.size∧az w' g 0 rM.flatten
 cap:l≤c1∧m≤c2
theorem qfC {w w0 wa wb:World} {k n:Int} {S:ByteArray} {l m:Nat} {rL rM:List (List Value)} {s1 s2:Value} {A1 A2:Option Addr} {c1 c2:Nat}
  (hz1:w0.heap[w.heap.size]? = some (.cells #[.int .i64 k,.int .i64 n,.string S,s1,s2] 25 (0,0)))
  (hz0:w0.heap[w.heap.size+1]? = some (.cells #[.int .i64 0,.int .i64 0,.string ⟨#[]⟩,.slice none 0 0,.slice none 0 0] 25 (0,0)))
  (hs0:w0.heap.size=w.heap.size+2) (hb0:Below w.heap.size w w0) (hba:Below w0.heap.size w0 wa) (hbb:Below wa.heap.size wa wb)
  (ho1:wa.ownsRow w0.heap.size 25 5 (.slice A1 l c1) l rL.flatten) (ho2:wb.ownsRow wa.heap.size 37 6 (.slice A2 m c2) m rM.flatten) :
  Mid w k n S l m rL rM A1 A2 c1 c2 wa.heap.size ((wb.setCell ⟨w.heap.size,3,none⟩ (.slice A1 l c1)).setCell ⟨w.heap.size,4,none⟩ (.slice A2 m c2)) where
 var:=qaz _ _ 4 _ _ _ (qaz _ _ 3 _ _ _ ((hbb.block w.heap.size (by have:=hba.size;omega)).trans ((hba.block w.heap.size (by omega)).trans hz1)))
 res:=by
  rw [Below.heap_setCell _ _ _ (w.heap.size+1) (show w.heap.size+1≠w.heap.size by omega),Below.heap_setCell _ _ _ (w.heap.size+1) (show w.heap.size+1≠w.heap.size by omega)];exact (hbb.block _ (by have:=hba.size;omega)).trans ((hba.block _ (by omega)).trans hz0)
 bel:=((hb0.trans ((hba.mono hb0.size).trans (hbb.mono (by have:=hba.size;omega)))).setCell (p:=⟨w.heap.size,3,none⟩) (Nat.le_refl _) _).setCell (p:=⟨w.heap.size,4,none⟩) (Nat.le_refl _) _
 lo:=by have:=hba.size;have:=hbb.size;simp;omega
 cap:=⟨qfQ ho1,qfQ ho2⟩
 ls:=fun h=>by
  obtain ⟨g,e,g1,g2,hc⟩:=qdY ho1 h;refine ⟨g,e,by omega,g2,hc.keep ?_⟩;rw [Below.heap_setCell _ _ _ g (show g≠w.heap.size by omega),Below.heap_setCell _ _ _ g (show g≠w.heap.size by omega)];exact hbb.block g g2
 ms:=fun h=>by
  obtain ⟨g,e,g1,g2,hc⟩:=qdY ho2 h;have:=hba.size;refine ⟨g,e,g1,by simpa using g2,hc.keep ?_⟩;rw [Below.heap_setCell _ _ _ g (show g≠w.heap.size by omega),Below.heap_setCell _ _ _ g (show g≠w.heap.size by omega)]
theorem qdc {w:World} {b t:Nat} {u0 u1 u2 u3 u4 u5:Value} (h:w.heap[b]? = some (.cells #[u0,u1,u2,u3,u4,u5] t (0,0))) :
  w.cell? ⟨b,0,none⟩=some u0∧w.cell? ⟨b,1,none⟩=some u1∧w.cell? ⟨b,2,none⟩=some u2∧w.cell? ⟨b,3,none⟩=some u3∧w.cell? ⟨b,4,none⟩=some u4∧w.cell? ⟨b,5,none⟩=some u5:=by
 refine ⟨?_,?_,?_,?_,?_,?_⟩ <;> simp [World.cell?,h]
def Lp (s o0 n0 N:Nat) (A:Option Addr) (l:List V) (k:Nat) (Fs:List (List Nat)) (w:World):Prop:=
 (l.length=0∧Fs=[])∨∃ g,0<l.length∧A=some ⟨g,0,none⟩∧n0+2≤g∧g<N∧qa9 s o0 n0 N g k l Fs w
def qcJ (w w1:World) (A:Option Addr) (n:Nat) (wr:World):Prop:=
 Below w.heap.size w wr∧w1.heap.size≤wr.heap.size∧∀ k,k<w1.heap.size→(0<n→A≠some ⟨k,0,none⟩)→wr.heap[k]? = w1.heap[k]?
theorem qiO {w w1 w2 w3 wF:World} {v:V} {A1 A2:Option Addr} {N:Nat} {FsL FsM:List (List Nat)} (c1 c2:Nat) (hcap:v.l.length≤c1∧v.ms.length≤c2) (hN:w.heap.size+2≤N∧N≤w1.heap.size) (hs12:w1.heap.size≤w2.heap.size) (hs23:w2.heap.size≤w3.heap.size)
  (L1:Lp 5 0 w.heap.size w1.heap.size A1 v.l v.l.length FsL w2) (M2:Lp 6 1 w.heap.size w2.heap.size A2 v.ms v.ms.length FsM w3) (g1N:0<v.l.length→∀ g,A1=some ⟨g,0,none⟩→g<N) (g2N:0<v.ms.length→∀ g,A2=some ⟨g,0,none⟩→N≤g∧g<w1.heap.size)
  (nm:∀ g,A2=some ⟨g,0,none⟩→0<v.ms.length→qb0 g v.ns w3) (hn:v.ns.length=v.ms.length) (qdl:∀ g,g<w2.heap.size→(g<N∨w1.heap.size≤g)→w3.heap[g]? = w2.heap[g]?)
  (hF:∀ k,w.heap.size+2≤k→wF.heap[k]? = w3.heap[k]?) (hFs:wF.heap.size=w3.heap.size) :
  ∃ F,RdF wF v [.int .i64 v.k,.int .i64 v.n,.string (ae v.s),.slice A1 v.l.length c1,.slice A2 v.ms.length c2] F∧F.Nodup∧∀ x∈F,w.heap.size≤x∧x<wF.heap.size:=by
 have PL:∃ FL:List Nat,((v.l.length=0∧FL=[])∨∃ g T,0<v.l.length∧A1=some ⟨g,0,none⟩∧FL=g::T∧cj wF g 0 v.l T)∧FL.Nodup∧∀ x∈FL,w.heap.size+2≤x∧(x<N∨(w1.heap.size≤x∧x<w2.heap.size)):=by
  rcases L1 with ⟨h,_⟩ | ⟨g,h0,e,p1,p2,h⟩
  ·exact ⟨[],.inl ⟨h,rfl⟩,List.nodup_nil,fun x hx=>by cases hx⟩
  ·have hg:=g1N h0 g e;have r:=qlm h;have k:∀ x,w.heap.size+2≤x→(x<N∨(w1.heap.size≤x∧x<w2.heap.size))→wF.heap[x]? = w2.heap[x]?:=fun x h1 h2=>(hF x h1).trans (qdl x (by omega) (by omega));refine ⟨g::FsL.flatten,.inr ⟨g,_,h0,e,rfl,cj.keep v.l g 0 _ (k g p1 (.inl hg)) (fun x hx=>k x (by have:=h.rng x hx;omega) (.inr (h.rng x hx))) r⟩,?_,?_⟩
   ·rw [List.nodup_cons];exact ⟨fun hx=>by have:=h.rng g hx;omega,h.nod⟩
   ·intro x hx;rcases List.mem_cons.1 hx with rfl | hx
    ·exact ⟨p1,.inl hg⟩
    ·have:=h.rng x hx;exact ⟨by omega,.inr this⟩
 have PM:∃ FM:List Nat,((v.ms.length=0∧FM=[])∨∃ g T,0<v.ms.length∧A2=some ⟨g,0,none⟩∧FM=g::T∧cf wF g 0 v.ns v.ms T)∧FM.Nodup∧∀ x∈FM,w.heap.size+2≤x∧((N≤x∧x<w1.heap.size)∨(w2.heap.size≤x∧x<w3.heap.size)):=by
  rcases M2 with ⟨h,_⟩ | ⟨g,h0,e,p1,p2,h⟩
  ·exact ⟨[],.inl ⟨h,rfl⟩,List.nodup_nil,fun x hx=>by cases hx⟩
  ·have hg:=g2N h0 g e;have r:=qlp hn h (nm g e h0);refine ⟨g::FsM.flatten,.inr ⟨g,_,h0,e,rfl,cf.keep v.ms g 0 v.ns _ (hF g p1) (fun x hx=>hF x (by have:=h.rng x hx;omega)) r⟩,?_,?_⟩
   ·rw [List.nodup_cons];exact ⟨fun hx=>by have:=h.rng g hx;omega,h.nod⟩
   ·intro x hx;rcases List.mem_cons.1 hx with rfl | hx
    ·exact ⟨p1,.inl hg⟩
    ·have:=h.rng x hx;exact ⟨by omega,.inr this⟩
 obtain ⟨FL,l1,l2,l3⟩:=PL;obtain ⟨FM,m1,m2,m3⟩:=PM;refine ⟨FL++FM,RdF.of_cells ⟨A1,c1,A2,c2,FL,FM,hcap.1,hcap.2,rfl,hn,rfl,l1,m1⟩,?_,fun x hx=>?_⟩
 ·rw [List.nodup_append];exact ⟨l2,m2,fun a ha b hb e=>by subst e;have:=l3 a ha;have:=m3 a hb;omega⟩
 ·rcases List.mem_append.1 hx with hx | hx
  ·have:=l3 x hx;omega
  ·have:=m3 x hx;omega
theorem qcJ.step {w w1 wr w5:World} {g n o:Nat} {v0 v1 v2 v3 v4:Value} (h:qcJ w w1 (some ⟨g,0,none⟩) n wr) (h0:0<n) (hb:Below wr.heap.size wr w5) (hg:w.heap.size≤g):qcJ w w1 (some ⟨g,0,none⟩) n (qa2 w5 g o v0 v1 v2 v3 v4):=by
 refine ⟨(h.1.trans (hb.mono h.1.size)).trans (qff qgb hg (Nat.le_trans h.1.size hb.size)),by rw [qdL];exact Nat.le_trans h.2.1 hb.size,fun k hk hA=>?_⟩;exact (br (fun e=>hA h0 (by rw [e]))).trans ((hb.block k (by have:=h.2.1;omega)).trans (h.2.2 k hk hA))
theorem qeT (h:Nat):∀ v:V,ht v≤h→szA 140737488355328 v→qdZ v:=by
 have mixed:Tryz.prog.follows .mixedOrders=true:=by kernel_rfl
 induction h with
 | zero=>intro v hh;rw [qam] at hh;omega
 | succ h ih=>
  intro v hh hz cs w hv;obtain ⟨-, -, -,z4,z5, -,z7,z8⟩:=(bL _ v).1 hz;have hht:=qam v;have IHL:=zh (show ∀ x∈v.l,qdZ x from fun x hx=>ih x (by have:=bt hx;omega) (aU z7 hx));have IHM:=zh (show ∀ x∈v.ms,qdZ x from fun x hx=>ih x (by have:=bt hx;omega) (aU z8 hx));obtain ⟨A1,c1,A2,c2,rfl,hn,hl,hm⟩:=hv.cells;obtain ⟨rL,rL1,rL2,rL3,rL4,rL5⟩:=qmf hl;obtain ⟨rM,rM1,rM2,rM3,rM4,rM5⟩:=qld hn hm;have HCL:=zh (fun (W:World) (hW:Below w.heap.size w W)=>qfK A1 v.l.length c1 rL.flatten W (by rw [qaD 5 rL rL2,rL1]) (by omega) (fun h0=>by
   obtain ⟨g,o,e,g2,hr⟩:=rL4 h0;exact ⟨g,o,e,fun j u hu=>(hW.cell (p:=⟨g,o+j,none⟩) g2).trans (hr j u hu)⟩) (qdd (s:=5) rL3))
  have HCM:=zh (fun (W:World) (hW:Below w.heap.size w W)=>qf7 A2 v.ms.length c2 rM.flatten W (by rw [qaD 6 rM rM2,rM1]) (by omega) (fun h0=>by
   obtain ⟨g,o,e,g2,hr⟩:=rM4 h0;exact ⟨g,o,e,fun j u hu=>(hW.cell (p:=⟨g,o+j,none⟩) g2).trans (hr j u hu)⟩) (qdd (s:=6) rM3))
  obtain ⟨k,hk⟩:∃ x,v.k=x:=⟨_,rfl⟩
  obtain ⟨n,hnn⟩:∃ x,v.n=x:=⟨_,rfl⟩
  obtain ⟨S,hS⟩:∃ x,ae v.s=x:=⟨_,rfl⟩
  obtain ⟨l,hll⟩:∃ x,v.l.length=x:=⟨_,rfl⟩
  obtain ⟨m,hmm⟩:∃ x,v.ms.length=x:=⟨_,rfl⟩
  have HK:=zh hk;have HNN:=zh hnn;have HSS:=zh hS;have HL:=zh hll;have HM:=zh hmm;have HN:=zh hn;have RL:=zh (And.intro rL1 (And.intro rL2 rL5));have RM:=zh (And.intro rM1 (And.intro rM2 rM5));have HHL:=zh hl;rw [hk,hnn,hS,hll,hmm];rw [hll] at HCL z4;rw [hmm] at HCM z5;clear ih hh hz z7 z8 hht hv hl hm rL1 rL2 rL3 rL4 rL5 rM1 rM2 rM3 rM4 rM5 hk hnn hS hll hmm hn;go_enter Tryz.func32,Tryz.ntmps32;go_wp2_with fail;have hz0:=am (w.alloc (.cells #[.int .i64 k,.int .i64 n,.string S,.slice A1 l c1,.slice A2 m c2] 25)) (.cells #[.int .i64 0,.int .i64 0,.string ⟨#[]⟩,.slice none 0 0,.slice none 0 0] 25);have hz1:=b7 (am w (.cells #[.int .i64 k,.int .i64 n,.string S,.slice A1 l c1,.slice A2 m c2] 25)) (.cells #[.int .i64 0,.int .i64 0,.string ⟨#[]⟩,.slice none 0 0,.slice none 0 0] 25);rw [aG] at hz0;have hs0:((w.alloc (.cells #[.int .i64 k,.int .i64 n,.string S,.slice A1 l c1,.slice A2 m c2] 25)).alloc (.cells #[.int .i64 0,.int .i64 0,.string ⟨#[]⟩,.slice none 0 0,.slice none 0 0] 25)).heap.size=w.heap.size+2:=by rw [aG,aG]
  have hb0:Below w.heap.size w ((w.alloc (.cells #[.int .i64 k,.int .i64 n,.string S,.slice A1 l c1,.slice A2 m c2] 25)).alloc (.cells #[.int .i64 0,.int .i64 0,.string ⟨#[]⟩,.slice none 0 0,.slice none 0 0] 25)):=((Below.refl _ _).alloc (Nat.le_refl _) _).alloc (by simp) _;generalize ((w.alloc (.cells #[.int .i64 k,.int .i64 n,.string S,.slice A1 l c1,.slice A2 m c2] 25)).alloc (.cells #[.int .i64 0,.int .i64 0,.string ⟨#[]⟩,.slice none 0 0,.slice none 0 0] 25))=w0 at *;refine Code.wp_mono (Q:=qjA fun a' w'=>∃ A1' c1' A2' c2' wm,a'={ tmps:= #[.agg #[.int .i64 k,.int .i64 n,.string S,.slice A1 l c1,.slice A2 m c2],.pointer (some ⟨w.heap.size,0,none⟩),.pointer (some ⟨w.heap.size+1,0,none⟩),undef,undef,undef,undef,.pointer (some ⟨w.heap.size,3,none⟩),.slice A1 l c1,.slice A1' l c1',.pointer (some ⟨w.heap.size,4,none⟩),.slice A2 m c2,.slice A2' m c2',.pointer (some ⟨w.heap.size,3,none⟩),.pointer (some ⟨w.heap.size,4,none⟩),undef,undef,undef,undef,undef,undef,undef,undef,undef,undef,undef,undef,undef,undef,undef,undef,undef,undef,undef,undef,undef,undef,undef,undef,undef,undef,undef,undef,undef,undef,undef,undef,undef],defers:=[] }∧Mid w k n S l m rL rM A1' A2' c1' c2' wm w') ?_ ?_
  ·intro e a' w1 hq;obtain ⟨rfl,A1',c1',A2',c2',N,rfl,hM⟩:=hq.out;have HMID:=zh hM;clear hM hz0 hz1 hs0 hb0 HCL HCM
   -- LOOPS
   have HV1:=zh HMID.out.var;have HBB1:=zh HMID.out.bel;have hN1:=HMID.out.lo;obtain ⟨q10,q11,q12,q13,q14⟩:=(ai HMID.out.var).1;have HST1:=zh (show Lp 5 0 w.heap.size w1.heap.size A1' v.l 0 [] w1 from by
    by_cases h0:0<l
    ·obtain ⟨g,e,g1,g2,hc⟩:=HMID.out.ls h0;have h0':0<v.l.length:=by rw [HL.out];exact h0
     obtain ⟨g',o',_,_,hg',hr'⟩:=HHL.out h0';exact .inr ⟨g,h0',e,g1,by omega,qih hr' (Nat.le_refl _) (fun p hp=>HMID.out.bel.cell (p:=p) hp) rL RL.out.1 RL.out.2.1 RL.out.2.2 hc⟩
    ·exact .inl ⟨by rw [HL.out];omega,rfl⟩)
   go_wp2_with fail;go_loopw [18] (fun si wr=>∃ (j:Nat) (Fs:List (List Nat)),si = .int .i64 j∧j≤l∧Aside (Lp 5 0 w.heap.size w1.heap.size A1' v.l j Fs wr)∧Aside (qcJ w w1 A1' l wr)) (fun si _=>l-(intOf si).toNat)
   case atStart=>exact ⟨0,[],rfl,by omega,HST1.out,(show qcJ w w1 A1' l w1 from ⟨HBB1.out,Nat.le_refl _,fun _ _ _=>rfl⟩)⟩
   case round=>
    obtain ⟨j,Fs,rfl,hjn,hLp,hFr⟩:=hrel;by_cases hlt:j<l
    ·have t1:decide ((j:Int)<(l:Int))=true:=zT (by omega);have t2:decide (j<l)=true:=zT hlt;have k0:(0:Int)≤(j:Int):=by omega
     have k1:(j:Int)<(l:Int):=by omega
     have k2:((j:Int)).toNat=j:=by omega
     have hjl:j<v.l.length:=by rw [HL.out];exact hlt
     rcases hLp.out with h | ⟨g,h0,e,g1,g2,hLS⟩
     ·have:=h.1;omega
     ·subst e;obtain ⟨xcs,hxc,hxv⟩:=hLS.org j hjl (Nat.le_refl _);have hmem:v.l[j]∈v.l:=List.getElem_mem hjl;have hFr':=hFr.out;have hgr:g<wr.heap.size:=by have:=hFr'.2.1;omega
      have hvar:wr.heap[w.heap.size]? = some (.cells #[.int .i64 k,.int .i64 n,.string S,.slice (some ⟨g,0,none⟩) l c1',.slice A2' m c2'] 25 (0,0)):=(hFr'.2.2 w.heap.size (by omega) (fun _ e=>by injection e with e;injection e with e;omega)).trans HV1.out;obtain ⟨x,hx⟩:∃ x,v.l[j]=x:=⟨_,rfl⟩
      rw [hx] at hxv hmem;have HX:=zh hx;obtain ⟨xA,xc,xB,xd,rfl, -⟩:=hxv.cells;have HCP0:=zh (fun (W:World) (hW:Below wr.heap.size wr W)=>IHL.out x hmem _ W (hxv.below hW (show w.heap.size≤wr.heap.size from hFr'.1.size) (Nat.le_trans hFr'.1.size hW.size)));have a0:=(hxc 0 _ rfl).1;have a1:=(hxc 1 _ rfl).1;have a2:=(hxc 2 _ rfl).1;have a3:=(hxc 3 _ rfl).1;have a4:=(hxc 4 _ rfl).1;simp only [Nat.add_zero] at a0 a1 a2 a3 a4;generalize x.k=xk at *;generalize x.n=xn at *;generalize ae x.s=xs at *;generalize x.l.length=xl at *;generalize x.ms.length=xm at *;clear hx hxv hxc hmem;obtain ⟨W,hW⟩:∃ W,W=wr.alloc (.cells #[.int .i64 xk,.int .i64 xn,.string xs,.slice xA xl xc,.slice xB xm xd] 25):=⟨_,rfl⟩
      have hWs:W.heap.size=wr.heap.size+1:=by rw [hW,aG]
      have hWb:Below wr.heap.size wr W:=by rw [hW];exact (Below.refl _ _).alloc (Nat.le_refl _) _
      have hWbox:W.heap[wr.heap.size]? = some (.cells #[.int .i64 xk,.int .i64 xn,.string xs,.slice xA xl xc,.slice xB xm xd] 25 (0,0)):=by rw [hW];exact am wr _
      have hWvar:W.heap[w.heap.size]? = some (.cells #[.int .i64 k,.int .i64 n,.string S,.slice (some ⟨g,0,none⟩) l c1',.slice A2' m c2'] 25 (0,0)):=(hWb.block w.heap.size (by omega)).trans hvar;have HCP:=zh (HCP0.out W.drew hWb.drew);have HLSW:=zh (hLS.keep hWb.drew hgr hFr'.1.size);have HGW:=zh (show g<W.drew.heap.size by show g<W.heap.size;omega);have HN0W:=zh (show w.heap.size≤W.drew.heap.size by show _≤W.heap.size;omega);have HGW2:=zh (show w.heap.size<W.heap.size by omega);have HWL:=zh (show wr.heap.size<W.heap.size by omega);have HGR:=zh hgr;have HW:=zh hW;have HWB:=zh hWb;have HLS:=zh hLS;have HFR:=zh hFr';have hSt:=And.intro hWvar hWbox;clear hW hWb hWbox hWvar hWs hvar HCP0 hLS hFr' hgr;go_wp2_with fail;rw [←HW.out];refine wp_region_held_drew (S:=fun w'=>w'.heap[w.heap.size]? = some (.cells #[.int .i64 k,.int .i64 n,.string S,.slice (some ⟨g,0,none⟩) l c1',.slice A2' m c2'] 25 (0,0))∧w'.heap[wr.heap.size]? = some (.cells #[.int .i64 xk,.int .i64 xn,.string xs,.slice xA xl xc,.slice xB xm xd] 25 (0,0))) (by kernel_rfl) (hSt) (fun hHeld=>?_);refine zm 0 ⟨some 23,.fieldAddr 25 (.tmp 1) 3,0,"tree.go:110",#[],none⟩ _ rfl (by kernel_rfl) (fun _ _ _ h=>h) (by rfl) hHeld (fun w hSw=>by go_simp;with_reducible rfl) ?_
      refine zm 1 ⟨some 24,.load 22 (.tmp 23),22,"tree.go:110",#[⟨0,.data⟩],none⟩ _ rfl (by kernel_rfl) (fun _ _ _ h=>h) (by rfl) hHeld (fun w hSw=>by have q1:=(ai hSw.1).1;obtain ⟨q10,q11,q12,q13,q14⟩:=q1;have q2:=(ai hSw.2).1;obtain ⟨q20,q21,q22,q23,q24⟩:=q2;clear hSw;go_simp;with_reducible rfl) ?_
      refine zm 2 ⟨some 25,.move (.tmp 3),3,"tree.go:110",#[],none⟩ _ rfl (by kernel_rfl) (fun _ _ _ h=>h) (by rfl) hHeld (fun w hSw=>by go_simp;with_reducible rfl) ?_
      refine zm 3 ⟨some 26,.load 25 (.tmp 4),25,"tree.go:110",#[],none⟩ _ rfl (by kernel_rfl) (fun _ _ _ h=>h) (by rfl) hHeld (fun w hSw=>by have q1:=(ai hSw.1).1;obtain ⟨q10,q11,q12,q13,q14⟩:=q1;have q2:=(ai hSw.2).1;obtain ⟨q20,q21,q22,q23,q24⟩:=q2;clear hSw;go_simp;with_reducible rfl) ?_
      refine wpAnyH_ready (rs:=[4]) (by kernel_rfl) (by simp) ?_;refine AllReadyH.cons (o:=⟨some 27,.call ⟨.value (.func 32),#[.tmp 26],#[25]⟩,25,"tree.go:110",#[⟨3,.data⟩],none⟩) rfl (fun K hK=>?_) AllReadyH.nil
      go_simp;go_at_call 32
      refine HCP.out.mono ?_;rintro e w5 ⟨⟨cs5,F5,rfl,hF5,hnd5,hr5⟩,hb5⟩;obtain ⟨yA,yc,yA2,yc2,FL5,FM5,rfl, -, -, -, -⟩:=hF5.cells;have HF5:=zh hF5;have HND5:=zh hnd5;have HR5:=zh hr5;have HB5:=zh hb5;have HLS5:=zh (qa9.keep (HLSW.out) hb5 HGW.out HN0W.out);have hold:=(HLS5.out.org j hjl (Nat.le_refl _))
      obtain ⟨ocs,hoc,hov⟩:=hold;obtain ⟨ol,_⟩:=qbP hov;have fz:=fun t (ht:t<5)=>(hoc t ocs[t] (List.getElem?_eq_getElem (by omega))).2;have fe:=fun t (ht:t<5)=>(hoc t ocs[t] (List.getElem?_eq_getElem (by omega))).1;have z0:=fz 0 (by omega);have z1:=fz 1 (by omega);have z2:=fz 2 (by omega);have z3:=fz 3 (by omega);have z4:=fz 4 (by omega);have e0:=fe 0 (by omega);have e1:=fe 1 (by omega);have e2:=fe 2 (by omega);have e3:=fe 3 (by omega);have e4:=fe 4 (by omega);generalize ocs[0]=oc0 at *;generalize ocs[1]=oc1 at *;generalize ocs[2]=oc2 at *;generalize ocs[3]=oc3 at *;generalize ocs[4]=oc4 at *;simp only [Nat.add_zero] at z0 z1 z2 z3 z4 e0 e1 e2 e3 e4;clear hF5 hnd5 hr5 hoc hov ol fz fe;refine hK.out _ _ (⟨(hb5.block w.heap.size (by have:=HGW2.out;simp;omega)).trans hHeld.1,(hb5.block wr.heap.size (by simp;exact HWL.out)).trans hHeld.2⟩) (fun hHeld=>?_);clear hK K;refine zm 5 ⟨some 28,.indexAddr 22 (.tmp 24) (.tmp 25),0,"tree.go:110",#[⟨1,.data⟩,⟨2,.data⟩,⟨0,.phase⟩,⟨1,.phase⟩,⟨2,.phase⟩,⟨3,.phase⟩,⟨4,.phase⟩],none⟩ _ rfl (by kernel_rfl) (fun _ _ _ h=>h) (by rfl) hHeld (fun w hSw=>by go_simp;with_reducible rfl) ?_
      refine wpAnyH_ready (rs:=[6]) (by kernel_rfl) (by simp) ?_;refine AllReadyH.cons (o:=⟨none,.store 25 (.tmp 28) (.tmp 27),0,"tree.go:110",#[⟨5,.data⟩,⟨4,.data⟩,⟨4,.chain⟩,⟨0,.phase⟩,⟨1,.phase⟩,⟨2,.phase⟩,⟨3,.phase⟩,⟨4,.phase⟩],none⟩) rfl (fun K hK=>?_) AllReadyH.nil
      go_simp;refine hK.out _ _ (⟨(br (show w.heap.size≠g by omega)).trans hHeld.1,(br (show wr.heap.size≠g by have:=HGR.out;omega)).trans hHeld.2⟩) (fun hHeld=>?_);clear hK K;refine wpAnyH_done (by kernel_rfl) ?_ _;have HLS6:=zh (qa9.step (M:=W.heap.size) HLS5.out (by omega) hjl g2 (by omega) (fun y hy=>by
       have:=(HLS.out.rng y hy).2;have:=HWB.out.size;omega) (by have:=HFR.out.2.1;have:=HWB.out.size;omega) (by rw [HX.out];exact HF5.out) HND5.out HR5.out)
      have HB6:=zh (show Below wr.heap.size wr w5 from HWB.out.drew.trans (HB5.out.mono (show wr.heap.size≤W.heap.size by have:=HWL.out;omega)));go_wp2_with fail;go_roundw
      case rel=>
       refine ⟨j+1,Fs++[F5],by go_num,by omega,(show Lp _ _ _ _ _ _ _ _ _ from .inr ⟨g,h0,rfl,g1,g2,HLS6.out⟩),(show qcJ _ _ _ _ _ from qcJ.step HFR.out (by omega) HB6.out (by omega))⟩
      case measure=>simp [intOf];omega
    ·have t1:decide ((j:Int)<(l:Int))=false:=zF (by omega);have t2:decide (j<l)=false:=zF hlt;obtain rfl:l=j:=by omega
     obtain ⟨w2,hw2⟩:∃ w2,w2=wr:=⟨_,rfl⟩
     rw [←hw2] at hLp hFr ⊢;have HLP1:=zh hLp.out;have HFR1:=zh hFr.out;have hs12:w1.heap.size≤w2.heap.size:=hFr.out.2.1;clear hw2 hLp hFr hlt t1 t2 q10 q11 q12 q13 q14;have hv2:=(HFR1.out.2.2 w.heap.size (by omega) (fun h0 e=>by
      obtain ⟨g,e',g1,_⟩:=HMID.out.ls h0;rw [e'] at e;injection e with e
      injection e with e
      omega)).trans HV1.out
     have HV2:=zh hv2;have HBB2:=zh HFR1.out.1;obtain ⟨q10,q11,q12,q13,q14⟩:=(ai hv2).1;have qdl:∀ g,N≤g→g<w1.heap.size→w2.heap[g]? = w1.heap[g]?:=fun g h1 h2=>HFR1.out.2.2 g h2 (fun h0 e=>by
      obtain ⟨g',e',_,g2',_⟩:=HMID.out.ls h0;rw [e'] at e;injection e with e
      injection e with e
      omega)
     have hstart:Lp 6 1 w.heap.size w2.heap.size A2' v.ms 0 [] w2∧(∀ g,A2'=some ⟨g,0,none⟩→0<m→qb0 g v.ns w2):=by
      by_cases h0:0<m
      ·obtain ⟨g,e,g1,g2,hc⟩:=HMID.out.ms h0;have h0':0<v.ms.length:=by rw [HM.out];exact h0
       have:=qic (N:=w2.heap.size) (n0:=w.heap.size) HN.out (Nat.le_refl _) (fun p hp=>HFR1.out.1.cell (p:=p) hp) rM RM.out.1 RM.out.2.1 RM.out.2.2 (hc.keep (qdl g g1 g2));exact ⟨.inr ⟨g,h0',e,by omega,by omega,this.1⟩,fun g' e' _=>by rw [e] at e';injection e' with e';injection e' with e';subst e';exact this.2⟩
      ·exact ⟨.inl ⟨by rw [HM.out];omega,rfl⟩,fun _ _ h=>absurd h h0⟩
     have HST2:=zh hstart.1;have HNM0:=zh hstart.2;clear hv2 qdl hstart;go_wp2_with fail;go_loopw [33] (fun si wr=>∃ (j:Nat) (Fs:List (List Nat)),si = .int .i64 j∧j≤m∧Aside (Lp 6 1 w.heap.size w2.heap.size A2' v.ms j Fs wr)∧Aside (qcJ w w2 A2' m wr)∧Aside (∀ g,A2'=some ⟨g,0,none⟩→0<m→qb0 g v.ns wr)) (fun si _=>m-(intOf si).toNat)
     case atStart=>exact ⟨0,[],rfl,by omega,HST2.out,(show qcJ w w2 A2' m w2 from ⟨HBB2.out,Nat.le_refl _,fun _ _ _=>rfl⟩),HNM0.out⟩
     case round=>
      obtain ⟨j,Fs,rfl,hjn,hLp,hFr,hNm⟩:=hrel;by_cases hlt:j<m
      ·have t1:decide ((j:Int)<(m:Int))=true:=zT (by omega);have t2:decide (j<m)=true:=zT hlt;have k0:(0:Int)≤(j:Int):=by omega
       have k1:(j:Int)<(m:Int):=by omega
       have k2:((j:Int)).toNat=j:=by omega
       have hjl:j<v.ms.length:=by rw [HM.out];exact hlt
       rcases hLp.out with h | ⟨g,h0,e,g1,g2,hLS⟩
       ·have:=h.1;omega
       ·subst e;obtain ⟨xcs,hxc,hxv⟩:=hLS.org j hjl (Nat.le_refl _);have hmem:v.ms[j]∈v.ms:=List.getElem_mem hjl;have hFr':=hFr.out;have hgr:g<wr.heap.size:=by have:=hFr'.2.1;omega
        have hvar:wr.heap[w.heap.size]? = some (.cells #[.int .i64 k,.int .i64 n,.string S,.slice A1' l c1',.slice (some ⟨g,0,none⟩) m c2'] 25 (0,0)):=(hFr'.2.2 w.heap.size (by omega) (fun _ e=>by injection e with e;injection e with e;omega)).trans HV2.out;have hjns:j<v.ns.length:=by rw [HN.out];exact hjl
        have hnmj:=hNm.out g rfl (by omega) j hjns;have an:=(hnmj 0 _ rfl).1;generalize ae v.ns[j]=X at an;obtain ⟨x,hx⟩:∃ x,v.ms[j]=x:=⟨_,rfl⟩
        rw [hx] at hxv hmem;have HX:=zh hx;obtain ⟨xA,xc,xB,xd,rfl, -⟩:=hxv.cells;have HCP0:=zh (fun (W:World) (hW:Below wr.heap.size wr W)=>IHM.out x hmem _ W (hxv.below hW (show w.heap.size≤wr.heap.size from hFr'.1.size) (Nat.le_trans hFr'.1.size hW.size)));have a0:=(hxc 0 _ rfl).1;have a1:=(hxc 1 _ rfl).1;have a2:=(hxc 2 _ rfl).1;have a3:=(hxc 3 _ rfl).1;have a4:=(hxc 4 _ rfl).1;simp only [Nat.add_zero,Nat.add_assoc,Nat.reduceAdd] at a0 a1 a2 a3 a4 an;generalize x.k=xk at *;generalize x.n=xn at *;generalize ae x.s=xs at *;generalize x.l.length=xl at *;generalize x.ms.length=xm at *;clear hx hxv hxc hmem;obtain ⟨W,hW⟩:∃ W,W=wr.alloc (.cells #[.string X,.int .i64 xk,.int .i64 xn,.string xs,.slice xA xl xc,.slice xB xm xd] 37):=⟨_,rfl⟩
        have hWs:W.heap.size=wr.heap.size+1:=by rw [hW,aG]
        have hWb:Below wr.heap.size wr W:=by rw [hW];exact (Below.refl _ _).alloc (Nat.le_refl _) _
        have hWbox:W.heap[wr.heap.size]? = some (.cells #[.string X,.int .i64 xk,.int .i64 xn,.string xs,.slice xA xl xc,.slice xB xm xd] 37 (0,0)):=by rw [hW];exact am wr _
        have hWvar:W.heap[w.heap.size]? = some (.cells #[.int .i64 k,.int .i64 n,.string S,.slice A1' l c1',.slice (some ⟨g,0,none⟩) m c2'] 25 (0,0)):=(hWb.block w.heap.size (by omega)).trans hvar;have HCP:=zh (HCP0.out W.drew hWb.drew);have HLSW:=zh (hLS.keep hWb.drew hgr hFr'.1.size);have HGW:=zh (show g<W.drew.heap.size by show g<W.heap.size;omega);have HN0W:=zh (show w.heap.size≤W.drew.heap.size by show _≤W.heap.size;omega);have HGW2:=zh (show w.heap.size<W.heap.size by omega);have HWL:=zh (show wr.heap.size<W.heap.size by omega);have HGR:=zh hgr;have HW:=zh hW;have HWB:=zh hWb;have HLS:=zh hLS;have HFR:=zh hFr';have hSt:=And.intro hWvar hWbox;clear hW hWb hWbox hWvar hWs hvar HCP0 hLS hFr' hgr;go_wp2_with fail;rw [←HW.out];refine wp_region_held_drew (S:=fun w'=>w'.heap[w.heap.size]? = some (.cells #[.int .i64 k,.int .i64 n,.string S,.slice A1' l c1',.slice (some ⟨g,0,none⟩) m c2'] 25 (0,0))∧w'.heap[wr.heap.size]? = some (.cells #[.string X,.int .i64 xk,.int .i64 xn,.string xs,.slice xA xl xc,.slice xB xm xd] 37 (0,0))) (by kernel_rfl) (hSt) (fun hHeld=>?_);refine zm 0 ⟨some 38,.fieldAddr 25 (.tmp 1) 4,0,"tree.go:113",#[],none⟩ _ rfl (by kernel_rfl) (fun _ _ _ h=>h) (by rfl) hHeld (fun w hSw=>by go_simp;with_reducible rfl) ?_
        refine zm 1 ⟨some 39,.load 23 (.tmp 38),23,"tree.go:113",#[⟨0,.data⟩],none⟩ _ rfl (by kernel_rfl) (fun _ _ _ h=>h) (by rfl) hHeld (fun w hSw=>by have q1:=(ai hSw.1).1;obtain ⟨q10,q11,q12,q13,q14⟩:=q1;have q2:=(qdc hSw.2);obtain ⟨q20,q21,q22,q23,q24,q25⟩:=q2;clear hSw;go_simp;with_reducible rfl) ?_
        refine zm 2 ⟨some 40,.move (.tmp 5),3,"tree.go:113",#[],none⟩ _ rfl (by kernel_rfl) (fun _ _ _ h=>h) (by rfl) hHeld (fun w hSw=>by go_simp;with_reducible rfl) ?_
        refine zm 3 ⟨some 41,.fieldAddr 37 (.tmp 6) 1,0,"tree.go:113",#[],none⟩ _ rfl (by kernel_rfl) (fun _ _ _ h=>h) (by rfl) hHeld (fun w hSw=>by go_simp;with_reducible rfl) ?_
        refine zm 4 ⟨some 42,.load 25 (.tmp 41),25,"tree.go:113",#[⟨3,.data⟩],none⟩ _ rfl (by kernel_rfl) (fun _ _ _ h=>h) (by rfl) hHeld (fun w hSw=>by have q1:=(ai hSw.1).1;obtain ⟨q10,q11,q12,q13,q14⟩:=q1;have q2:=(qdc hSw.2);obtain ⟨q20,q21,q22,q23,q24,q25⟩:=q2;clear hSw;go_simp;with_reducible rfl) ?_
        refine wpAnyH_ready (rs:=[5]) (by kernel_rfl) (by simp) ?_;refine AllReadyH.cons (o:=⟨some 43,.call ⟨.value (.func 32),#[.tmp 42],#[25]⟩,25,"tree.go:113",#[⟨4,.data⟩],none⟩) rfl (fun K hK=>?_) AllReadyH.nil
        go_simp;go_at_call 32
        refine HCP.out.mono ?_;rintro e w5 ⟨⟨cs5,F5,rfl,hF5,hnd5,hr5⟩,hb5⟩;obtain ⟨yA,yc,yA2,yc2,FL5,FM5,rfl, -, -, -, -⟩:=hF5.cells;have HF5:=zh hF5;have HND5:=zh hnd5;have HR5:=zh hr5;have HB5:=zh hb5;have HLS5:=zh (qa9.keep (HLSW.out) hb5 HGW.out HN0W.out);have hold:=(HLS5.out.org j hjl (Nat.le_refl _))
        obtain ⟨ocs,hoc,hov⟩:=hold;obtain ⟨ol,_⟩:=qbP hov;have fz:=fun t (ht:t<5)=>(hoc t ocs[t] (List.getElem?_eq_getElem (by omega))).2;have fe:=fun t (ht:t<5)=>(hoc t ocs[t] (List.getElem?_eq_getElem (by omega))).1;have z0:=fz 0 (by omega);have z1:=fz 1 (by omega);have z2:=fz 2 (by omega);have z3:=fz 3 (by omega);have z4:=fz 4 (by omega);have e0:=fe 0 (by omega);have e1:=fe 1 (by omega);have e2:=fe 2 (by omega);have e3:=fe 3 (by omega);have e4:=fe 4 (by omega);generalize ocs[0]=oc0 at *;generalize ocs[1]=oc1 at *;generalize ocs[2]=oc2 at *;generalize ocs[3]=oc3 at *;generalize ocs[4]=oc4 at *;rw [Nat.add_zero] at z0 e0;clear hF5 hnd5 hr5 hoc hov ol fz fe;refine hK.out _ _ (⟨(hb5.block w.heap.size (by have:=HGW2.out;simp;omega)).trans hHeld.1,(hb5.block wr.heap.size (by simp;exact HWL.out)).trans hHeld.2⟩) (fun hHeld=>?_);clear hK K;refine zm 6 ⟨some 44,.indexAddr 23 (.tmp 39) (.tmp 40),0,"tree.go:113",#[⟨1,.data⟩,⟨2,.data⟩,⟨0,.phase⟩,⟨1,.phase⟩,⟨2,.phase⟩,⟨3,.phase⟩,⟨4,.phase⟩,⟨5,.phase⟩],none⟩ _ rfl (by kernel_rfl) (fun _ _ _ h=>h) (by rfl) hHeld (fun w hSw=>by go_simp;with_reducible rfl) ?_
        refine zm 7 ⟨some 45,.fieldAddr 37 (.tmp 44) 1,0,"tree.go:113",#[⟨6,.data⟩,⟨0,.phase⟩,⟨1,.phase⟩,⟨2,.phase⟩,⟨3,.phase⟩,⟨4,.phase⟩,⟨5,.phase⟩],none⟩ _ rfl (by kernel_rfl) (fun _ _ _ h=>h) (by rfl) hHeld (fun w hSw=>by go_simp;with_reducible rfl) ?_
        refine wpAnyH_ready (rs:=[8]) (by kernel_rfl) (by simp) ?_;refine AllReadyH.cons (o:=⟨none,.store 25 (.tmp 45) (.tmp 43),0,"tree.go:113",#[⟨7,.data⟩,⟨5,.data⟩,⟨5,.chain⟩,⟨0,.phase⟩,⟨1,.phase⟩,⟨2,.phase⟩,⟨3,.phase⟩,⟨4,.phase⟩,⟨5,.phase⟩],none⟩) rfl (fun K hK=>?_) AllReadyH.nil
        go_simp;refine hK.out _ _ (⟨(br (show w.heap.size≠g by omega)).trans hHeld.1,(br (show wr.heap.size≠g by have:=HGR.out;omega)).trans hHeld.2⟩) (fun hHeld=>?_);clear hK K;refine wpAnyH_done (by kernel_rfl) ?_ _;have HLS6:=zh (qa9.step (M:=W.heap.size) HLS5.out (by omega) hjl g2 (by omega) (fun y hy=>by
         have:=(HLS.out.rng y hy).2;have:=HWB.out.size;omega) (by have:=HFR.out.2.1;have:=HWB.out.size;omega) (by rw [HX.out];exact HF5.out) HND5.out HR5.out)
        have HB6:=zh (show Below wr.heap.size wr w5 from HWB.out.drew.trans (HB5.out.mono (show wr.heap.size≤W.heap.size by have:=HWL.out;omega)));go_wp2_with fail;go_roundw
        case rel=>
         refine ⟨j+1,Fs++[F5],by go_num,by omega,(show Lp _ _ _ _ _ _ _ _ _ from .inr ⟨g,h0,rfl,g1,g2,HLS6.out⟩),(show qcJ _ _ _ _ _ from qcJ.step HFR.out (by omega) HB6.out (by omega)),?_⟩;refine (show ∀ g',_→_→qb0 g' v.ns _ from fun g' e _=>?_);injection e with e
         injection e with e
         subst e;exact qb0.step ((hNm.out g rfl (by omega)).keep (HB6.out.block g HGR.out))
        case measure=>simp [intOf];omega
      ·have t1:decide ((j:Int)<(m:Int))=false:=zF (by omega);have t2:decide (j<m)=false:=zF hlt;obtain rfl:m=j:=by omega
       obtain ⟨w3,hw3⟩:∃ w3,w3=wr:=⟨_,rfl⟩
       rw [←hw3] at hLp hFr hNm ⊢;have HLP2:=zh hLp.out;have HFR2:=zh hFr.out;have HNM2:=zh hNm.out;have hs23:w2.heap.size≤w3.heap.size:=hFr.out.2.1;clear hw3 hLp hFr hNm hlt t1 t2 q10 q11 q12 q13 q14;have qdl:∀ g,g<w2.heap.size→(g<N∨w1.heap.size≤g)→w3.heap[g]? = w2.heap[g]?:=fun g h1 h2=>HFR2.out.2.2 g h1 (fun h0 e=>by
        obtain ⟨g',e',g1',g2',_⟩:=HMID.out.ms h0;rw [e'] at e;injection e with e
        injection e with e
        omega)
       have hv3:=(qdl w.heap.size (by omega) (by omega)).trans HV2.out;have hr3:=(qdl (w.heap.size+1) (by omega) (by omega)).trans ((HFR1.out.2.2 (w.heap.size+1) (by omega) (fun h0 e=>by
        obtain ⟨g,e',g1,_⟩:=HMID.out.ls h0;rw [e'] at e;injection e with e
        injection e with e
        omega)).trans HMID.out.res)
       have HR3:=zh hr3;obtain ⟨q10,q11,q12,q13,q14⟩:=(ai hv3).1;obtain ⟨⟨p0,p1,p2,p3,p4⟩,⟨o0,o1,o2,o3,o4⟩⟩:=ai hr3;have HKEPT:=zh qdl;clear hv3 hr3 qdl;go_wp2;refine bodyPost_ret (qg4 rfl rfl (bZ HR3.out (.int .i64 k) (.int .i64 n) (.string S) (.slice A1' l c1') (.slice A2' m c2'))) rfl ?_;have hse:=qiO (w:=w) (w1:=w1) (w2:=w2) (w3:=w3) (wF:=st5 w3 (w.heap.size+1) (.int .i64 k) (.int .i64 n) (.string S) (.slice A1' l c1') (.slice A2' m c2')) (v:=v) (A1:=A1') (A2:=A2') c1' c2' (by rw [HL.out,HM.out];exact HMID.out.cap) hN1 hs12 hs23
        (by rw [HL.out];exact HLP1.out) (by rw [HM.out];exact HLP2.out)
        (fun h0 g e=>by
         obtain ⟨g',e',_,g2',_⟩:=HMID.out.ls (by rw [←HL.out];exact h0);rw [e'] at e;injection e with e
         injection e with e
         omega)
        (fun h0 g e=>by
         obtain ⟨g',e',g1',g2',_⟩:=HMID.out.ms (by rw [←HM.out];exact h0);rw [e'] at e;injection e with e
         injection e with e
         omega)
        (fun g e h0=>HNM2.out g e (by rw [←HM.out];exact h0)) HN.out HKEPT.out (fun x hx=>qdK (by omega) _ _ _ _ _) (qcM _ _ _ _ _)
       obtain ⟨F,f1,f2,f3⟩:=hse;rw [HK.out,HNN.out,HSS.out,HL.out,HM.out] at f1;exact ⟨⟨_,F,rfl,f1,f2,f3⟩,bu HFR2.out.1 (by omega) _ _ _ _ _⟩
   -- END OF LOOPS
  ·have b1:=(ai hz1).1;have f1:=(ai hz1).2;obtain ⟨-, -, -,b3,b4⟩:=b1;have HZ0:=zh hz0;have HZ1:=zh hz1;have HS0:=zh hs0;have HB0:=zh hb0;have hlt0:w.heap.size<w0.heap.size:=by omega
   clear hz0 hz1 hs0 hb0 f1;have HCL1:=zh (show ∀ W:World,W=w0.drew→_ from fun W hW=>HCL.out W (by rw [hW];exact HB0.out.drew));clear HCL
   -- REGION 1
   refine wp_region_held_drew (S:=fun _=>True) (by kernel_rfl) (trivial) (fun hHeld=>?_);refine zm 0 ⟨some 7,.fieldAddr 25 (.tmp 1) 3,0,"tree.go:108",#[],none⟩ _ rfl (by kernel_rfl) (fun _ _ _ h=>h) (by rfl) trivial (fun w hSw=>by go_simp;with_reducible rfl) ?_
   refine zm 3 ⟨some 10,.fieldAddr 25 (.tmp 1) 4,0,"tree.go:108",#[],none⟩ _ rfl (by kernel_rfl) (fun _ _ _ h=>h) (by rfl) trivial (fun w hSw=>by go_simp;with_reducible rfl) ?_
   refine wpAnyH_ready (rs:=[1,4]) (by kernel_rfl) (by simp) ?_;refine AllReadyH.cons (o:={ dst:=some 8,op:=Op.load 22 (Operand.tmp 7),type:=22,pos:= "tree.go:108",after:= #[{ on:=0,ground:=Ground.data }],guard:=none }) rfl (fun K hK=>?_) (AllReadyH.cons (o:={ dst:=some 11,op:=Op.load 23 (Operand.tmp 10),type:=23,pos:= "tree.go:108",after:= #[{ on:=3,ground:=Ground.data }],guard:=none }) rfl (fun K hK=>?_) AllReadyH.nil)
   ·go_simp;refine hK.out _ _ trivial (fun _=>?_);clear hK K;refine wpAnyH_ready (rs:=[2,4]) (by kernel_rfl) (by simp) ?_;refine AllReadyH.cons (o:={ dst:=some 9,op:=Op.call { callee:=Callee.value (Operand.func 44),args:= #[Operand.tmp 8],argTypes:= #[22] },type:=22,pos:= "tree.go:108",after:= #[{ on:=1,ground:=Ground.data }],guard:=none }) rfl (fun K hK=>?_) (AllReadyH.cons (o:={ dst:=some 11,op:=Op.load 23 (Operand.tmp 10),type:=23,pos:= "tree.go:108",after:= #[{ on:=3,ground:=Ground.data }],guard:=none }) rfl (fun K hK=>?_) AllReadyH.nil)
    ·go_simp;go_at_call 44
     refine (HCL1.out _ rfl).mono ?_;rintro e wa ⟨A1',c1',rfl,ho1,hba⟩;have HO1:=zh ho1;have HBA:=zh hba;have b4a:wa.cell? ⟨w.heap.size,4,none⟩=some (.slice A2 m c2):=(hba.cell (p:=⟨w.heap.size,4,none⟩) (by show w.heap.size<w0.drew.heap.size;exact hlt0)).trans b4;have HCM1:=zh (HCM.out wa (HB0.out.drew.trans (hba.mono HB0.out.size)));clear ho1 hba;refine hK.out _ _ trivial (fun _=>?_);clear hK K;refine wpAnyH_ready (rs:=[4]) (by kernel_rfl) (by simp) ?_;refine AllReadyH.cons (o:=⟨some 11,.load 23 (.tmp 10),23,"tree.go:108",#[⟨3,.data⟩],none⟩) rfl (fun K hK=>?_) AllReadyH.nil
     go_simp;refine hK.out _ _ trivial (fun _=>?_);clear hK K;refine wpAnyH_take (i:=6) (oi:={ dst:=some 13,op:=Op.fieldAddr 25 (Operand.tmp 1) 3,type:=0,pos:= "tree.go:108",after:= #[{ on:=0,ground:=Ground.phase },{ on:=1,ground:=Ground.phase },{ on:=2,ground:=Ground.phase },{ on:=3,ground:=Ground.phase },{ on:=4,ground:=Ground.phase },{ on:=5,ground:=Ground.textOnly Departure.lateStoresUnsure }],guard:=none }) (v:=?_) rfl (by kernel_rfl) (by kernel_rfl) (by kernel_rfl) (fun _ _ _ h=>h) (Or.inl ⟨by rfl,?_⟩) trivial ?_
     rotate_left
     ·intro w hSw;(try dsimp only at hSw);go_simp;with_reducible rfl
     refine wpAnyH_ready (rs:=[5]) (by kernel_rfl) (by simp) ?_;refine AllReadyH.cons (o:=⟨some 12,.call ⟨.value (.func 45),#[.tmp 11],#[23]⟩,23,"tree.go:108",#[⟨4,.data⟩,⟨2,.chain⟩],none⟩) rfl (fun K hK=>?_) AllReadyH.nil
     go_simp;go_at_call 45
     refine HCM1.out.mono ?_;rintro e wb ⟨A2',c2',rfl,ho2,hbb⟩;have HO2:=zh ho2;have HBB:=zh hbb;have hb0b:=(hbb.block w.heap.size (by have:=HBA.out.size;exact Nat.lt_of_lt_of_le hlt0 this)).trans ((HBA.out.block w.heap.size hlt0).trans HZ1.out);have f3:=(ai hb0b).2.2.2.2.1;have f4:=(ai hb0b).2.2.2.2.2;have e3:=(ai hb0b).1.2.2.2.1;have e4:=(ai hb0b).1.2.2.2.2;clear ho2 hbb hb0b;refine hK.out _ _ trivial (fun _=>?_);clear hK K;refine wpAnyH_ready (rs:=[7]) (by kernel_rfl) (by simp) ?_;refine AllReadyH.cons (o:={ dst:=none,op:=Op.store 22 (Operand.tmp 13) (Operand.tmp 9),type:=0,pos:= "tree.go:108",after:= #[{ on:=6,ground:=Ground.data },{ on:=2,ground:=Ground.data },{ on:=5,ground:=Ground.chain },{ on:=0,ground:=Ground.phase },{ on:=1,ground:=Ground.phase },{ on:=2,ground:=Ground.phase },{ on:=3,ground:=Ground.phase },{ on:=4,ground:=Ground.phase },{ on:=5,ground:=Ground.textOnly Departure.lateStoresUnsure }],guard:=none }) rfl (fun K hK=>?_) AllReadyH.nil
     go_simp;refine hK.out _ _ trivial (fun _=>?_);clear hK K;refine zm 8 ⟨some 14,.fieldAddr 25 (.tmp 1) 4,0,"tree.go:108",#[⟨0,.phase⟩,⟨1,.phase⟩,⟨2,.phase⟩,⟨3,.phase⟩,⟨4,.phase⟩,⟨5,.phase⟩,⟨6,.phase⟩,⟨7,.phase⟩],none⟩ _ rfl (by kernel_rfl) (fun _ _ _ h=>h) (by rfl) trivial (fun w hSw=>by go_simp;with_reducible rfl) ?_
     refine wpAnyH_ready (rs:=[9]) (by kernel_rfl) (by simp) ?_;refine AllReadyH.cons (o:=⟨none,.store 23 (.tmp 14) (.tmp 12),0,"tree.go:108",#[⟨8,.data⟩,⟨5,.data⟩,⟨7,.chain⟩,⟨0,.phase⟩,⟨1,.phase⟩,⟨2,.phase⟩,⟨3,.phase⟩,⟨4,.phase⟩,⟨5,.phase⟩,⟨6,.phase⟩,⟨7,.phase⟩],none⟩) rfl (fun K hK=>?_) AllReadyH.nil
     go_simp;refine hK.out _ _ trivial (fun _=>?_);clear hK K;refine wpAnyH_done (by kernel_rfl) ?_ _;refine ⟨_,_,_,_,_,rfl,qfC HZ1.out HZ0.out HS0.out HB0.out (show Below w0.heap.size w0 _ from (Below.refl _ _).drew.trans HBA.out) HBB.out HO1.out HO2.out⟩
    ·go_simp;refine hK.out _ _ trivial (fun _=>?_);clear hK K;refine wpAnyH_ready (rs:=[2]) (by kernel_rfl) (by simp) ?_;refine AllReadyH.cons (o:=⟨some 9,.call ⟨.value (.func 44),#[.tmp 8],#[22]⟩,22,"tree.go:108",#[⟨1,.data⟩],none⟩) rfl (fun K hK=>?_) AllReadyH.nil
     go_simp;go_at_call 44
     refine (HCL1.out _ rfl).mono ?_;rintro e wa ⟨A1',c1',rfl,ho1,hba⟩;have HO1:=zh ho1;have HBA:=zh hba;have b4a:wa.cell? ⟨w.heap.size,4,none⟩=some (.slice A2 m c2):=(hba.cell (p:=⟨w.heap.size,4,none⟩) (by show w.heap.size<w0.drew.heap.size;exact hlt0)).trans b4;have HCM1:=zh (HCM.out wa (HB0.out.drew.trans (hba.mono HB0.out.size)));clear ho1 hba;refine hK.out _ _ trivial (fun _=>?_);clear hK K;refine wpAnyH_take (i:=6) (oi:={ dst:=some 13,op:=Op.fieldAddr 25 (Operand.tmp 1) 3,type:=0,pos:= "tree.go:108",after:= #[{ on:=0,ground:=Ground.phase },{ on:=1,ground:=Ground.phase },{ on:=2,ground:=Ground.phase },{ on:=3,ground:=Ground.phase },{ on:=4,ground:=Ground.phase },{ on:=5,ground:=Ground.textOnly Departure.lateStoresUnsure }],guard:=none }) (v:=?_) rfl (by kernel_rfl) (by kernel_rfl) (by kernel_rfl) (fun _ _ _ h=>h) (Or.inl ⟨by rfl,?_⟩) trivial ?_
     rotate_left
     ·intro w hSw;(try dsimp only at hSw);go_simp;with_reducible rfl
     refine wpAnyH_ready (rs:=[5]) (by kernel_rfl) (by simp) ?_;refine AllReadyH.cons (o:=⟨some 12,.call ⟨.value (.func 45),#[.tmp 11],#[23]⟩,23,"tree.go:108",#[⟨4,.data⟩,⟨2,.chain⟩],none⟩) rfl (fun K hK=>?_) AllReadyH.nil
     go_simp;go_at_call 45
     refine HCM1.out.mono ?_;rintro e wb ⟨A2',c2',rfl,ho2,hbb⟩;have HO2:=zh ho2;have HBB:=zh hbb;have hb0b:=(hbb.block w.heap.size (by have:=HBA.out.size;exact Nat.lt_of_lt_of_le hlt0 this)).trans ((HBA.out.block w.heap.size hlt0).trans HZ1.out);have f3:=(ai hb0b).2.2.2.2.1;have f4:=(ai hb0b).2.2.2.2.2;have e3:=(ai hb0b).1.2.2.2.1;have e4:=(ai hb0b).1.2.2.2.2;clear ho2 hbb hb0b;refine hK.out _ _ trivial (fun _=>?_);clear hK K;refine wpAnyH_ready (rs:=[7]) (by kernel_rfl) (by simp) ?_;refine AllReadyH.cons (o:={ dst:=none,op:=Op.store 22 (Operand.tmp 13) (Operand.tmp 9),type:=0,pos:= "tree.go:108",after:= #[{ on:=6,ground:=Ground.data },{ on:=2,ground:=Ground.data },{ on:=5,ground:=Ground.chain },{ on:=0,ground:=Ground.phase },{ on:=1,ground:=Ground.phase },{ on:=2,ground:=Ground.phase },{ on:=3,ground:=Ground.phase },{ on:=4,ground:=Ground.phase },{ on:=5,ground:=Ground.textOnly Departure.lateStoresUnsure }],guard:=none }) rfl (fun K hK=>?_) AllReadyH.nil
     go_simp;refine hK.out _ _ trivial (fun _=>?_);clear hK K;refine zm 8 ⟨some 14,.fieldAddr 25 (.tmp 1) 4,0,"tree.go:108",#[⟨0,.phase⟩,⟨1,.phase⟩,⟨2,.phase⟩,⟨3,.phase⟩,⟨4,.phase⟩,⟨5,.phase⟩,⟨6,.phase⟩,⟨7,.phase⟩],none⟩ _ rfl (by kernel_rfl) (fun _ _ _ h=>h) (by rfl) trivial (fun w hSw=>by go_simp;with_reducible rfl) ?_
     refine wpAnyH_ready (rs:=[9]) (by kernel_rfl) (by simp) ?_;refine AllReadyH.cons (o:=⟨none,.store 23 (.tmp 14) (.tmp 12),0,"tree.go:108",#[⟨8,.data⟩,⟨5,.data⟩,⟨7,.chain⟩,⟨0,.phase⟩,⟨1,.phase⟩,⟨2,.phase⟩,⟨3,.phase⟩,⟨4,.phase⟩,⟨5,.phase⟩,⟨6,.phase⟩,⟨7,.phase⟩],none⟩) rfl (fun K hK=>?_) AllReadyH.nil
     go_simp;refine hK.out _ _ trivial (fun _=>?_);clear hK K;refine wpAnyH_done (by kernel_rfl) ?_ _;refine ⟨_,_,_,_,_,rfl,qfC HZ1.out HZ0.out HS0.out HB0.out (show Below w0.heap.size w0 _ from (Below.refl _ _).drew.trans HBA.out) HBB.out HO1.out HO2.out⟩
   ·go_simp;refine hK.out _ _ trivial (fun _=>?_);clear hK K;refine wpAnyH_ready (rs:=[1]) (by kernel_rfl) (by simp) ?_;refine AllReadyH.cons (o:=⟨some 8,.load 22 (.tmp 7),22,"tree.go:108",#[⟨0,.data⟩],none⟩) rfl (fun K hK=>?_) AllReadyH.nil
    go_simp;refine hK.out _ _ trivial (fun _=>?_);clear hK K;refine wpAnyH_ready (rs:=[2]) (by kernel_rfl) (by simp) ?_;refine AllReadyH.cons (o:=⟨some 9,.call ⟨.value (.func 44),#[.tmp 8],#[22]⟩,22,"tree.go:108",#[⟨1,.data⟩],none⟩) rfl (fun K hK=>?_) AllReadyH.nil
    go_simp;go_at_call 44
    refine (HCL1.out _ rfl).mono ?_;rintro e wa ⟨A1',c1',rfl,ho1,hba⟩;have HO1:=zh ho1;have HBA:=zh hba;have b4a:wa.cell? ⟨w.heap.size,4,none⟩=some (.slice A2 m c2):=(hba.cell (p:=⟨w.heap.size,4,none⟩) (by show w.heap.size<w0.drew.heap.size;exact hlt0)).trans b4;have HCM1:=zh (HCM.out wa (HB0.out.drew.trans (hba.mono HB0.out.size)));clear ho1 hba;refine hK.out _ _ trivial (fun _=>?_);clear hK K;refine wpAnyH_take (i:=6) (oi:={ dst:=some 13,op:=Op.fieldAddr 25 (Operand.tmp 1) 3,type:=0,pos:= "tree.go:108",after:= #[{ on:=0,ground:=Ground.phase },{ on:=1,ground:=Ground.phase },{ on:=2,ground:=Ground.phase },{ on:=3,ground:=Ground.phase },{ on:=4,ground:=Ground.phase },{ on:=5,ground:=Ground.textOnly Departure.lateStoresUnsure }],guard:=none }) (v:=?_) rfl (by kernel_rfl) (by kernel_rfl) (by kernel_rfl) (fun _ _ _ h=>h) (Or.inl ⟨by rfl,?_⟩) trivial ?_
    rotate_left
    ·intro w hSw;(try dsimp only at hSw);go_simp;with_reducible rfl
    refine wpAnyH_ready (rs:=[5]) (by kernel_rfl) (by simp) ?_;refine AllReadyH.cons (o:=⟨some 12,.call ⟨.value (.func 45),#[.tmp 11],#[23]⟩,23,"tree.go:108",#[⟨4,.data⟩,⟨2,.chain⟩],none⟩) rfl (fun K hK=>?_) AllReadyH.nil
    go_simp;go_at_call 45
    refine HCM1.out.mono ?_;rintro e wb ⟨A2',c2',rfl,ho2,hbb⟩;have HO2:=zh ho2;have HBB:=zh hbb;have hb0b:=(hbb.block w.heap.size (by have:=HBA.out.size;exact Nat.lt_of_lt_of_le hlt0 this)).trans ((HBA.out.block w.heap.size hlt0).trans HZ1.out);have f3:=(ai hb0b).2.2.2.2.1;have f4:=(ai hb0b).2.2.2.2.2;have e3:=(ai hb0b).1.2.2.2.1;have e4:=(ai hb0b).1.2.2.2.2;clear ho2 hbb hb0b;refine hK.out _ _ trivial (fun _=>?_);clear hK K;refine wpAnyH_ready (rs:=[7]) (by kernel_rfl) (by simp) ?_;refine AllReadyH.cons (o:={ dst:=none,op:=Op.store 22 (Operand.tmp 13) (Operand.tmp 9),type:=0,pos:= "tree.go:108",after:= #[{ on:=6,ground:=Ground.data },{ on:=2,ground:=Ground.data },{ on:=5,ground:=Ground.chain },{ on:=0,ground:=Ground.phase },{ on:=1,ground:=Ground.phase },{ on:=2,ground:=Ground.phase },{ on:=3,ground:=Ground.phase },{ on:=4,ground:=Ground.phase },{ on:=5,ground:=Ground.textOnly Departure.lateStoresUnsure }],guard:=none }) rfl (fun K hK=>?_) AllReadyH.nil
    go_simp;refine hK.out _ _ trivial (fun _=>?_);clear hK K;refine zm 8 ⟨some 14,.fieldAddr 25 (.tmp 1) 4,0,"tree.go:108",#[⟨0,.phase⟩,⟨1,.phase⟩,⟨2,.phase⟩,⟨3,.phase⟩,⟨4,.phase⟩,⟨5,.phase⟩,⟨6,.phase⟩,⟨7,.phase⟩],none⟩ _ rfl (by kernel_rfl) (fun _ _ _ h=>h) (by rfl) trivial (fun w hSw=>by go_simp;with_reducible rfl) ?_
    refine wpAnyH_ready (rs:=[9]) (by kernel_rfl) (by simp) ?_;refine AllReadyH.cons (o:=⟨none,.store 23 (.tmp 14) (.tmp 12),0,"tree.go:108",#[⟨8,.data⟩,⟨5,.data⟩,⟨7,.chain⟩,⟨0,.phase⟩,⟨1,.phase⟩,⟨2,.phase⟩,⟨3,.phase⟩,⟨4,.phase⟩,⟨5,.phase⟩,⟨6,.phase⟩,⟨7,.phase⟩],none⟩) rfl (fun K hK=>?_) AllReadyH.nil
    go_simp;refine hK.out _ _ trivial (fun _=>?_);clear hK K;refine wpAnyH_done (by kernel_rfl) ?_ _;refine ⟨_,_,_,_,_,rfl,qfC HZ1.out HZ0.out HS0.out HB0.out (show Below w0.heap.size w0 _ from (Below.refl _ _).drew.trans HBA.out) HBB.out HO1.out HO2.out⟩
   -- END OF REGION 1
