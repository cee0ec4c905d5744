/- Merged: TrA TrM TrB TrE PoGe PoPl2. -/
import Derived.Test.YtofelafamfckiaaGreatDoorTt26
import Derived.Test.YtofelafamfckiaaGreatDoorTt15
import Derived.Test.YtofelafamfckiaaGreatDoorTt17
set_option maxRecDepth 100000
set_option maxHeartbeats 4000000
namespace Go.Proofs.YtofelafamfckiaaGreatDoor
namespace Tr
open Go.Proofs Go.RowKit Go.Lib Utf Sc Re
def inL (v:V):List V:=if v.k=5 then v.l else []
def inN (v:V):List (List UInt8):=if v.k=6 then v.ns else []
def inM (v:V):List V:=if v.k=6 then v.ms else []
def plc (ns:List (List UInt8)) (nm:List UInt8):Int:=if nm∈ns then (ns.idxOf nm:Int) else -1
def bP (v:V) (nm:List UInt8):V:=(inM v).getD ((inN v).idxOf nm) V0
theorem qhp {ns:List (List UInt8)} {nm:List UInt8} {k:Nat} (hk:k<ns.length) (h1:∀ j (h:j<ns.length),j<k→ns[j]≠nm) (h2:ns[k]=nm):ns.idxOf nm=k:=by
 induction ns generalizing k with
 | nil=>simp at hk
 | cons a r ih=>
  cases k with
  | zero=>simp at h2;subst h2;simp
  | succ k=>
   have ha:a≠nm:=h1 0 (by simp) (by omega);rw [List.idxOf_cons];have:(a==nm)=false:=by rw [beq_eq_false_iff_ne];exact ha
   rw [this];simp;exact ih (by simpa using hk) (fun j h hj=>by have:=h1 (j+1) (by simpa using h) (by omega);simpa using this) (by simpa using h2)
theorem qlT {ns:List (List UInt8)} {nm:List UInt8} {k:Nat} (hk:k<ns.length) (h1:∀ j (h:j<ns.length),j<k→ns[j]≠nm) (h2:ns[k]=nm):plc ns nm=(k:Int):=by
 unfold plc;rw [if_pos (by rw [←h2];exact List.getElem_mem hk),qhp hk h1 h2]
theorem qiT {ns:List (List UInt8)} {nm:List UInt8} (h1:∀ j (h:j<ns.length),ns[j]≠nm):plc ns nm = -1:=by
 unfold plc;rw [if_neg];intro h;obtain ⟨j,hj,e⟩:=List.getElem_of_mem h;exact h1 j hj e
def qbR (x:M6):List Value:=[.int .i64 x.k,.int .i64 x.n,.string x.s,.slice x.A x.l x.c,.slice x.A2 x.m x.c2]
def qkO (w:World) (lo hi:Nat) (A:Option Addr) (ns:List (List UInt8)) (ms:List V) (d:List M6):Prop:=
 d.length=ms.length∧d.map M6.nm=ns∧(0<d.length→∃ g o,A=some ⟨g,o,none⟩∧lo≤g∧g<hi∧∀ i (h:i<d.length),qbJ w g (o+i*6) d[i])∧(∀ i (h1:i<d.length) (h2:i<ms.length),RdA w lo hi ms[i] (qbR d[i]))
theorem qcX {w:World} {lo hi g:Nat}:∀ (ms:List V) (ns:List (List UInt8)) (o:Nat),aL w lo hi g o ns ms→ns.length=ms.length→∃ d:List M6,d.length=ms.length∧d.map M6.nm=ns∧(∀ i (h:i<d.length),qbJ w g (o+i*6) d[i])∧(∀ i (h1:i<d.length) (h2:i<ms.length),RdA w lo hi ms[i] (qbR d[i]))
 | [],ns,o,_,hn=>⟨[],rfl,by rw [List.eq_nil_of_length_eq_zero hn];rfl,(fun i h=>by simp at h),fun i h=>by simp at h⟩
 | v::r,ns,o,h,hn=>by
  rw [aL] at h;obtain ⟨nm,ns',rfl,h0,⟨cs,hcs,hv⟩,hr⟩:=h;obtain ⟨d,d1,d2,d3,d4⟩:=qcX r ns' (o+6) hr (by simpa using hn);obtain ⟨A,c,A2,c2,rfl,_⟩:=hv.cells;refine ⟨⟨nm,v.k,v.n,ae v.s,A,v.l.length,c,A2,v.ms.length,c2⟩::d,by simp [d1],by simp [d2],fun i hi=>?_,fun i hi h2=>?_⟩
  ·cases i with
   | zero=>
    have e:=fun j u (hu:([Value.int .i64 v.k,.int .i64 v.n,.string (ae v.s),.slice A v.l.length c,.slice A2 v.ms.length c2]:List Value)[j]? = some u)=>hcs j u hu;rw [show o+0*6=o by omega];exact ⟨h0,e 0 _ rfl,e 1 _ rfl,e 2 _ rfl,e 3 _ rfl,e 4 _ rfl⟩
   | succ i=>
    have:=d3 i (by simpa using hi);rw [show o+(i+1)*6=o+6+i*6 by omega];exact this
  ·cases i with
   | zero=>exact hv
   | succ i=>exact d4 i (by simpa using hi) (by simpa using h2)
theorem qgC {w:World} {lo hi:Nat} {A:Option Addr} {ns:List (List UInt8)} {ms:List V} (hn:ns.length=ms.length) (h:0<ms.length→∃ g o,A=some ⟨g,o,none⟩∧lo≤g∧g<hi∧aL w lo hi g o ns ms):∃ d,qkO w lo hi A ns ms d:=by
 by_cases h0:0<ms.length
 ·obtain ⟨g,o,e,g1,g2,hr⟩:=h h0;obtain ⟨d,d1,d2,d3,d4⟩:=qcX ms ns o hr hn;exact ⟨d,d1,d2,fun _=>⟨g,o,e,g1,g2,d3⟩,d4⟩
 ·have e:ms=[]:=List.eq_nil_of_length_eq_zero (by omega);subst e;exact ⟨[],rfl,by rw [List.eq_nil_of_length_eq_zero hn];rfl,(fun h=>by simp at h),fun i h=>by simp at h⟩
theorem qkO.below {w w':World} {lo hi B:Nat} {A:Option Addr} {ns:List (List UInt8)} {ms:List V} {d:List M6} (h:qkO w lo hi A ns ms d) (hb:Below B w w') (hB:hi≤B):qkO w' lo hi A ns ms d:=
 ⟨h.1,h.2.1,fun h0=>by
  obtain ⟨g,o,e,g1,g2,hr⟩:=h.2.2.1 h0;exact ⟨g,o,e,g1,g2,fun i hi=>(hr i hi).keep fun j=>hb.cell (p:=⟨g,j,none⟩) (by show g<B;omega)⟩,fun i h1 h2=>(h.2.2.2 i h1 h2).below hb hB (Nat.le_refl _)⟩
theorem qco {B:Nat} {a w:World} (h:Below B a w) (n:Nat):Below B a (w.drewN n):=⟨h.os,h.tape,h.output,h.size,h.block⟩
def qj1 (v:V) (lo hi:Nat) (w:World) (e:Ending) (w':World):Prop:=
 (∃ A c A2 c2,e = .returned (.tuple #[.slice A (inL v).length c,.slice A2 (inM v).length c2])∧(0<(inL v).length→∃ g o,A=some ⟨g,o,none⟩∧lo≤g∧g<hi∧aN w lo hi g o (inL v))∧(0<(inM v).length→∃ g o,A2=some ⟨g,o,none⟩∧lo≤g∧g<hi∧aL w lo hi g o (inN v) (inM v)))∧Below w.heap.size w w'
/-- the slices of a value's cells, of its kind alone -/
theorem qev (k n:Int) (S:ByteArray) (A A2:Option Addr) (l c l2 c2:Nat) (w:World) :
  Calls Tryz.prog 34 #[.agg #[.int .i64 k,.int .i64 n,.string S,.slice A l c,.slice A2 l2 c2]] w fun e w'=>
   (∃ A' l' c' A2' l2' c2',e = .returned (.tuple #[.slice A' l' c',.slice A2' l2' c2'])∧(k=5→A'=A∧l'=l∧c'=c)∧(k≠5→A'=none∧l'=0∧c'=0)∧(k=6→A2'=A2∧l2'=l2∧c2'=c2)∧(k≠6→A2'=none∧l2'=0∧c2'=0))∧Below w.heap.size w w':=by
 have mixed:Tryz.prog.follows .mixedOrders=true:=by kernel_rfl
 by_cases h5:k=5
 ·subst h5;go_enter Tryz.func34,Tryz.ntmps34;go_wp2;go_ret2
  exact ⟨⟨_,_,_,_,_,_,rfl,fun _=>⟨rfl,rfl,rfl⟩,fun h=>absurd rfl h,fun h=>absurd h (by decide),fun _=>⟨rfl,rfl,rfl⟩⟩,(Below.refl _ _).alloc (Nat.le_refl _) _⟩
 by_cases h6:k=6
 ·subst h6;clear h5;go_enter Tryz.func34,Tryz.ntmps34;go_wp2_with fail;go_quiet ((fail))
  go_wp2;go_ret2
  exact ⟨⟨_,_,_,_,_,_,rfl,fun h=>absurd h (by decide),fun _=>⟨rfl,rfl,rfl⟩,fun _=>⟨rfl,rfl,rfl⟩,fun h=>absurd rfl h⟩,qco ((Below.refl _ _).alloc (Nat.le_refl _) _) _⟩
 ·have t1:(k==5)=false:=by rw [beq_eq_false_iff_ne];exact h5
  have t2:(k==6)=false:=by rw [beq_eq_false_iff_ne];exact h6
  go_enter Tryz.func34,Tryz.ntmps34;go_wp2;go_ret2
  exact ⟨⟨_,_,_,_,_,_,rfl,fun h=>absurd h h5,fun _=>⟨rfl,rfl,rfl⟩,fun h=>absurd h h6,fun _=>⟨rfl,rfl,rfl⟩⟩,(Below.refl _ _).alloc (Nat.le_refl _) _⟩
theorem qlZ {w:World} {lo hi:Nat} {v:V} {cs:List Value} (h:RdA w lo hi v cs):(inN v).length=(inM v).length:=by
 obtain ⟨_,_,_,_,_,hn,_⟩:=h.cells;unfold inN inM;split
 ·exact hn
 ·rfl
theorem qf1 (v:V) (cs:List Value) (lo hi:Nat) (w:World) (h:RdA w lo hi v cs):Calls Tryz.prog 34 #[.agg cs.toArray] w (qj1 v lo hi w):=by
 obtain ⟨A,c,A2,c2,rfl,hn,hl,hm⟩:=h.cells;refine (qev v.k v.n (ae v.s) A A2 v.l.length c v.ms.length c2 w).mono ?_;rintro e w' ⟨⟨A',l',c',A2',l2',c2',rfl,q1,q2,q3,q4⟩,hb⟩;refine ⟨⟨A',c',A2',c2',?_,?_,?_⟩,hb⟩
 ·have e1:l'=(inL v).length:=by
   unfold inL;by_cases hk:v.k=5
   ·rw [if_pos hk];exact (q1 hk).2.1
   ·rw [if_neg hk];exact (q2 hk).2.1
  have e2:l2'=(inM v).length:=by
   unfold inM;by_cases hk:v.k=6
   ·rw [if_pos hk];exact (q3 hk).2.1
   ·rw [if_neg hk];exact (q4 hk).2.1
  rw [e1,e2]
 ·unfold inL;by_cases hk:v.k=5
  ·rw [if_pos hk,(q1 hk).1];exact hl
  ·rw [if_neg hk];intro h;simp at h
 ·unfold inM inN;by_cases hk:v.k=6
  ·rw [if_pos hk,if_pos hk,(q3 hk).1];exact hm
  ·rw [if_neg hk];intro h;simp at h
theorem qe5 (x:M6) (B:Nat) (nm:List UInt8) (W:World) (hB:W.cell? ⟨B,0,none⟩=some (.string (ae nm))) (hBl:B<W.heap.size) :
  Calls Tryz.prog 47 #[.agg (qjR x).toArray,.pointer (some ⟨B,0,none⟩)] W fun e w'=>e = .returned (.bool (decide (x.nm=nm)))∧Below W.heap.size W w':=by
 have hE:(ae x.nm).toList==(ae nm).toList↔x.nm=nm:=by rw [aA,aA,beq_iff_eq]
 have hD:decide (x.nm=nm)=((ae x.nm).toList==(ae nm).toList):=by rw [Bool.eq_iff_iff,decide_eq_true_iff,hE]
 rw [hD];obtain ⟨xx,xk,xn,xs,xA,xl,xc,xB,xm,xd⟩:=x;simp only [qjR] at *;clear hE hD;generalize ae xx=X at *;generalize ae nm=Y at *;have hc:(W.alloc (.cells #[.string X,.int .i64 xk,.int .i64 xn,.string xs,.slice xA xl xc,.slice xB xm xd] 37)).cell? ⟨B,0,none⟩=some (.string Y):=(cN (p:=⟨B,0,none⟩) (Below.heap_alloc W _ _ hBl)).trans hB;generalize hq:(X.toList==Y.toList)=q;go_enter Tryz.func47,Tryz.ntmps47;go_wp2;go_ret;exact ⟨rfl,(Below.refl _ _).alloc (Nat.le_refl _) _⟩
theorem qdg (A:Option Addr) (len cap:Nat) (d:List M6) (hlen:d.length=len) (hreach:len<4611686018427387904) (nm:List UInt8) (B:Nat) (w:World) (hB:w.cell? ⟨B,0,none⟩=some (.string (ae nm))) (hBl:B<w.heap.size)
  (hA:0<d.length→∃ b off,A=some ⟨b,off,none⟩∧b<w.heap.size∧∀ i (h:i<d.length),qbJ w b (off+i*6) d[i]) :
  Calls Tryz.prog 46 #[.slice A len cap,.func (.func 47) #[] #[.pointer (some ⟨B,0,none⟩)]] w fun e w'=>e = .returned (.int .i64 (plc (d.map M6.nm) nm))∧Below w.heap.size w w':=by
 have HA:Aside _:=hA;have HL:Aside (d.length=len):=hlen;have e39:∀ args w,(callFunc 47 args).run Tryz.prog w = .ok (.enter 47 args) w:=enters_of Tryz.func47 (by kernel_rfl) rfl;clear hA hlen;obtain ⟨r,hr⟩:∃ r,plc (d.map M6.nm) nm=r:=⟨_,rfl⟩
 rw [hr];have HR:=zh hr;clear hr;have HB:Aside _:=hB;clear hB;go_enter Tryz.func46,Tryz.ntmps46;go_wp2_with fail;go_loopw [8] (fun i wr=>∃ k:Nat,i = .int .i64 k∧k≤len∧Aside (∀ j (h:j<(d.map M6.nm).length),j<k→(d.map M6.nm)[j]≠nm)∧Aside (Below w.heap.size w wr)) (fun i _=>len-(intOf i).toNat)
 case atStart=>exact ⟨0,rfl,by omega,(show ∀ _ _ _,_ from fun j h hj=>by omega),(show Below _ _ _ from Below.refl _ _)⟩
 case round=>
  obtain ⟨k,rfl,hk,hne,hbel⟩:=hrel;by_cases hlt:k<len
  ·have t1:decide ((k:Int)<(len:Int))=true:=zT (by omega);have t2:decide (k<len)=true:=zT hlt;have k0:(0:Int)≤(k:Int):=by omega
   have k1:(k:Int)<(len:Int):=by omega
   have k2:((k:Int)).toNat=k:=by omega
   have hkl:k<d.length:=by have:=HL.out;omega
   obtain ⟨b,off,rfl,hb,hc⟩:=HA.out (by omega);have hx:=(hc k hkl).keep (W':=wr) (fun j=>hbel.out.cell (p:=⟨b,j,none⟩) hb);have hcon:=zh (qe5 d[k] B nm wr ((hbel.out.cell (p:=⟨B,0,none⟩) hBl).trans HB.out) (Nat.lt_of_lt_of_le hBl hbel.out.size));have hmp:(d.map M6.nm)[k]'(by simpa using hkl)=d[k].nm:=by simp
   have HMP:=zh hmp;clear hmp;by_cases hxn:d[k].nm=nm
   ·rw [zT hxn] at hcon;have HXN:=zh hxn;clear hxn;generalize d[k]=x at hx hcon HXN HMP;obtain ⟨xx,xk,xn,xs,xA,xl,xc,xB,xm,xd⟩:=x;simp only [qbJ] at hx;simp only [qjR] at hcon;obtain ⟨a0,a1,a2,a3,a4,a5⟩:=hx;generalize ae xx=X at *;clear hc;go_wp2_with fail;refine hcon.out.mono ?_;rintro e w1 ⟨rfl,hb1⟩;go_wp2;go_ret;exact ⟨by rw [←HR.out,qlT (by simpa using hkl) (fun j h hj=>hne.out j h hj) (HMP.out.trans HXN.out)];rfl,hbel.out.trans (hb1.mono hbel.out.size)⟩
   ·rw [zF hxn] at hcon;have HXN:=zh hxn;clear hxn;generalize d[k]=x at hx hcon HXN HMP;obtain ⟨xx,xk,xn,xs,xA,xl,xc,xB,xm,xd⟩:=x;simp only [qbJ] at hx;simp only [qjR] at hcon;obtain ⟨a0,a1,a2,a3,a4,a5⟩:=hx;generalize ae xx=X at *;clear hc;go_wp2_with fail;refine hcon.out.mono ?_;rintro e w1 ⟨rfl,hb1⟩;have HB1:Aside _:=hb1;clear hb1;go_wp2;go_roundw
    case rel=>
     refine ⟨k+1,by go_num,by omega,?_,(show Below _ _ _ from hbel.out.trans (HB1.out.mono hbel.out.size))⟩;refine (show ∀ _ _ _,_ from fun j h hj=>?_);rcases Nat.lt_or_ge j k with c | c
     ·exact hne.out j h c
     ·obtain rfl:j=k:=by omega
      rw [HMP.out];exact HXN.out
    case measure=>simp [intOf];omega
  ·have t1:decide ((k:Int)<(len:Int))=false:=zF (by omega);have t2:decide (k<len)=false:=zF hlt;go_wp2;go_ret;exact ⟨by rw [←HR.out,qiT (fun j h=>hne.out j h (by have:=HL.out;simp at h;omega))];rfl,hbel.out⟩
theorem qhQ (A:Option Addr) (len cap:Nat) (d:List M6) (hlen:d.length=len) (hreach:len<4611686018427387904) (nm:List UInt8) (w:World)
  (hA:0<d.length→∃ b off,A=some ⟨b,off,none⟩∧b<w.heap.size∧∀ i (h:i<d.length),qbJ w b (off+i*6) d[i]) :
  Calls Tryz.prog 35 #[.slice A len cap,.string (ae nm)] w fun e w'=>e = .returned (.int .i64 (plc (d.map M6.nm) nm))∧Below w.heap.size w w':=by
 have HCC:=zh (fun (W:World) (hW:W=w.alloc (.cells #[.string (ae nm)] 9))=>qdg A len cap d hlen hreach nm w.heap.size W (by subst hW;unfold World.cell?;rw [am];rfl) (by subst hW;simp) (fun h=>by
  obtain ⟨b,off,e,hb,hc⟩:=hA h;subst hW;have hb2:Below w.heap.size w (w.alloc (.cells #[.string (ae nm)] 9)):=(Below.refl _ _).alloc (Nat.le_refl _) _;exact ⟨b,off,e,by simp;omega,fun i hi=>(hc i hi).keep fun j=>hb2.cell (p:=⟨b,j,none⟩) hb⟩))
 clear hA;generalize plc (d.map M6.nm) nm=r at *;generalize ae nm=Y at *;go_enter Tryz.func35,Tryz.ntmps35;go_wp2_with fail;refine (HCC.out _ rfl).mono ?_;rintro e w1 ⟨rfl,hb⟩;go_wp2;go_ret;exact ⟨rfl,((Below.refl _ _).alloc (Nat.le_refl _) _).trans (hb.mono (by simp))⟩
theorem qaz (w:World) (b i:Nat) (cs:Array Value) (t:TypeId) (v:Value) (h:w.heap[b]? = some (.cells cs t (0,0))):(w.setCell ⟨b,i,none⟩ v).heap[b]? = some (.cells (cs.setIfInBounds i v) t (0,0)):=by
 obtain ⟨hlt,hk⟩:=Array.getElem?_eq_some_iff.1 h;show (w.heap.modify b _)[b]? = _;rw [Array.getElem?_eq_getElem (by rw [Array.size_modify];exact hlt),Array.getElem_modify_self,hk];rfl
def st5 (w:World) (b:Nat) (v0 v1 v2 v3 v4:Value):World:=((((w.setCell ⟨b,0,none⟩ v0).setCell ⟨b,1,none⟩ v1).setCell ⟨b,2,none⟩ v2).setCell ⟨b,3,none⟩ v3).setCell ⟨b,4,none⟩ v4
section
variable {w:World} {b t:Nat} {u0 u1 u2 u3 u4:Value}
theorem bZ (h:w.heap[b]? = some (.cells #[u0,u1,u2,u3,u4] t (0,0))) (v0 v1 v2 v3 v4:Value):(st5 w b v0 v1 v2 v3 v4).heap[b]? = some (.cells #[v0,v1,v2,v3,v4] t (0,0)):=
 qaz _ b 4 _ _ v4 (qaz _ b 3 _ _ v3 (qaz _ b 2 _ _ v2 (qaz _ b 1 _ _ v1 (qaz w b 0 _ _ v0 h))))
theorem qdK {k:Nat} (hk:k≠b) (v0 v1 v2 v3 v4:Value):(st5 w b v0 v1 v2 v3 v4).heap[k]? = w.heap[k]?:=by
 unfold st5;rw [Below.heap_setCell _ _ _ k hk,Below.heap_setCell _ _ _ k hk,Below.heap_setCell _ _ _ k hk,Below.heap_setCell _ _ _ k hk,Below.heap_setCell _ _ _ k hk]
theorem qcM (v0 v1 v2 v3 v4:Value):(st5 w b v0 v1 v2 v3 v4).heap.size=w.heap.size:=by simp [st5]
theorem bu {B:Nat} {a:World} (h:Below B a w) (hb:B≤b) (v0 v1 v2 v3 v4:Value):Below B a (st5 w b v0 v1 v2 v3 v4):=
 ((((h.setCell (p:=⟨b,0,none⟩) hb v0).setCell (p:=⟨b,1,none⟩) hb v1).setCell (p:=⟨b,2,none⟩) hb v2).setCell (p:=⟨b,3,none⟩) hb v3).setCell (p:=⟨b,4,none⟩) hb v4
theorem ai (h:w.heap[b]? = some (.cells #[u0,u1,u2,u3,u4] t (0,0))) :
  (w.cell? ⟨b,0,none⟩=some u0∧w.cell? ⟨b,1,none⟩=some u1∧w.cell? ⟨b,2,none⟩=some u2∧w.cell? ⟨b,3,none⟩=some u3∧w.cell? ⟨b,4,none⟩=some u4)∧
  (w.frozen? ⟨b,0,none⟩=false∧w.frozen? ⟨b,1,none⟩=false∧w.frozen? ⟨b,2,none⟩=false∧w.frozen? ⟨b,3,none⟩=false∧w.frozen? ⟨b,4,none⟩=false):=by
 refine ⟨⟨?_,?_,?_,?_,?_⟩,⟨?_,?_,?_,?_,?_⟩⟩ <;> simp [World.cell?,World.frozen?,h]
end
section
variable {fn:Func} {s b z:Nat} {tmps:Array Value} {w:World} {fr:Nat×Nat} {v0 v1 v2 v3 v4:Value}
theorem qg4 (hf:fn.results = #[.cell s 25]) (ht:tmps.getD s undef = .pointer (some ⟨b,0,none⟩))
  (h:w.heap[b]? = some (.cells #[v0,v1,v2,v3,v4] 25 fr)):(results fn tmps).run Tryz.prog w = .ok (.agg #[v0,v1,v2,v3,v4]) w:=by
 have c0:w.cell? ⟨b,0,none⟩=some v0:=by simp [World.cell?,h]
 have c1:w.cell? ⟨b,1,none⟩=some v1:=by simp [World.cell?,h]
 have c2:w.cell? ⟨b,2,none⟩=some v2:=by simp [World.cell?,h]
 have c3:w.cell? ⟨b,3,none⟩=some v3:=by simp [World.cell?,h]
 have c4:w.cell? ⟨b,4,none⟩=some v4:=by simp [World.cell?,h]
 rw [Array.getD_eq_getD_getElem?] at ht;simp [results,hf,ht,c0,c1,c2,c3,c4,go_sem]
theorem qk2 {x:Value} (hf:fn.results = #[.cell s 25,.tmp z]) (ht:tmps.getD s undef = .pointer (some ⟨b,0,none⟩)) (hx:tmps.getD z undef=x)
  (h:w.heap[b]? = some (.cells #[v0,v1,v2,v3,v4] 25 fr)):(results fn tmps).run Tryz.prog w = .ok (.tuple #[.agg #[v0,v1,v2,v3,v4],x]) w:=by
 have c0:w.cell? ⟨b,0,none⟩=some v0:=by simp [World.cell?,h]
 have c1:w.cell? ⟨b,1,none⟩=some v1:=by simp [World.cell?,h]
 have c2:w.cell? ⟨b,2,none⟩=some v2:=by simp [World.cell?,h]
 have c3:w.cell? ⟨b,3,none⟩=some v3:=by simp [World.cell?,h]
 have c4:w.cell? ⟨b,4,none⟩=some v4:=by simp [World.cell?,h]
 rw [Array.getD_eq_getD_getElem?] at ht hx;simp [results,hf,ht,hx,c0,c1,c2,c3,c4,go_sem]
end
end Tr
namespace Tr
open Go.Proofs Go.RowKit Go.Lib Utf Sc Re
theorem qj4 (w:World) (lo hi:Nat):RdA w lo hi V0 [.int .i64 0,.int .i64 0,.string ⟨#[]⟩,.slice none 0 0,.slice none 0 0]:=by
 rw [V0,RdA];exact ⟨none,0,none,0,rfl,rfl,fun h=>by simp at h,fun h=>by simp at h⟩
theorem qgE {v:V} {nm:List UInt8} {k:Nat} (hl:k<(inM v).length) (e:(inN v).idxOf nm=k):bP v nm=(inM v)[k]:=by
 unfold bP;rw [e,List.getD_eq_getElem?_getD,List.getElem?_eq_getElem hl];rfl
theorem qhI {v:V} {nm:List UInt8} (hl:(inN v).length=(inM v).length) (h:nm∉inN v):bP v nm=V0:=by
 unfold bP;rw [List.idxOf_eq_length h,hl,List.getD_eq_getElem?_getD,List.getElem?_eq_none (Nat.le_refl _)];rfl
end Tr
namespace Tr
open Go.Proofs Go.RowKit Go.Lib Utf Sc Re
open Em (qeI)
theorem qki {v x:V} (h:x∈inM v):x∈v.ms:=by
 unfold inM at h;split at h
 ·exact h
 ·cases h
end Tr
namespace Po
open Go.Proofs Go.RowKit Go.Lib Utf Sc Re Tr
def qdA (hi:Nat) (v:V) (nm:List UInt8) (w:World) (e:Ending) (w':World):Prop:=
 (∃ cs:List Value,e = .returned (.tuple #[.agg cs.toArray,.bool (decide (nm∈inN v))])∧RdA w 0 hi (bP v nm) cs)∧Below w.heap.size w w'
theorem qfU (hi:Nat) (v:V) (cs:List Value) (nm:List UInt8) (w:World) (hhi:hi≤w.heap.size) (hv:RdA w 0 hi v cs) (hz:szA 4611686018427387904 v) :
  Calls Tryz.prog 16 #[.agg cs.toArray,.string (ae nm)] w (qdA hi v nm w):=by
 have hlen:=qlZ hv;have hms:(inM v).length<4611686018427387904:=by
  have:=((bL _ v).1 hz).2.2.2.2.1;unfold inM;split
  ·omega
  ·simp
 have HI:=zh (fun (W:World) (hW:Below w.heap.size w W)=>qf1 v cs 0 hi W (hv.below hW hhi (Nat.le_refl _)));obtain ⟨A0,c0,A20,c20,rfl,_⟩:=hv.cells;clear hv hz;generalize v.k=k at *;generalize v.n=n at *;generalize ae v.s=S at *;generalize v.l.length=l at *;generalize v.ms.length=m at *;have HLEN:=zh hlen;clear hlen;have hz:((w.alloc (.cells #[.int .i64 k,.int .i64 n,.string S,.slice A0 l c0,.slice A20 m c20] 25)).alloc (.cells #[.int .i64 0,.int .i64 0,.string ⟨#[]⟩,.slice none 0 0,.slice none 0 0] 25)).heap[w.heap.size+1]? = some (.cells #[.int .i64 0,.int .i64 0,.string ⟨#[]⟩,.slice none 0 0,.slice none 0 0] 25 (0,0)):=by
  have:=am (w.alloc (.cells #[.int .i64 k,.int .i64 n,.string S,.slice A0 l c0,.slice A20 m c20] 25)) (.cells #[.int .i64 0,.int .i64 0,.string ⟨#[]⟩,.slice none 0 0,.slice none 0 0] 25);rwa [aG] at this
 have hb0:Below w.heap.size w ((w.alloc (.cells #[.int .i64 k,.int .i64 n,.string S,.slice A0 l c0,.slice A20 m c20] 25)).alloc (.cells #[.int .i64 0,.int .i64 0,.string ⟨#[]⟩,.slice none 0 0,.slice none 0 0] 25)):=((Below.refl _ _).alloc (Nat.le_refl _) _).alloc (by simp) _;have hs0:((w.alloc (.cells #[.int .i64 k,.int .i64 n,.string S,.slice A0 l c0,.slice A20 m c20] 25)).alloc (.cells #[.int .i64 0,.int .i64 0,.string ⟨#[]⟩,.slice none 0 0,.slice none 0 0] 25)).heap.size=w.heap.size+2:=by rw [aG,aG]
 have HZ:=zh hz;have HB0:=zh hb0;have HS0:=zh hs0;clear hz hb0 hs0;go_enter Tryz.func16,Tryz.ntmps16;go_wp2_with fail;generalize ((w.alloc (.cells #[.int .i64 k,.int .i64 n,.string S,.slice A0 l c0,.slice A20 m c20] 25)).alloc (.cells #[.int .i64 0,.int .i64 0,.string ⟨#[]⟩,.slice none 0 0,.slice none 0 0] 25))=w0 at HZ HB0 HS0 ⊢;refine (HI.out _ HB0.out).mono ?_;rintro e w1 ⟨⟨A,c,A2,c2,rfl,_,hM⟩,hb1⟩;have hb1':=hb1;obtain ⟨d,hd⟩:=qgC HLEN.out hM;have HD:=zh (hd.below (hb1.mono HB0.out.size) hhi);have HB1:=zh (HB0.out.trans (hb1.mono HB0.out.size));have HZ1:=zh ((hb1.block (w.heap.size+1) (by rw [HS0.out];omega)).trans HZ.out);have HSZ:=zh (show w.heap.size+2≤w1.heap.size by have:=hb1.size;rw [HS0.out] at this;omega);have HPL:=zh (qhQ A2 (inM v).length c2 d hd.1 hms nm w1 (fun h=>by
  obtain ⟨g,o,e,_,g2,hr⟩:=HD.out.2.2.1 h;exact ⟨g,o,e,by have:=HB1.out.size;omega,hr⟩))
 clear hd hM hb1 hb1' HZ HB0 HS0 HI;generalize hln:(inM v).length=len at *;have HLN:=zh hln;clear hln;generalize (inL v).length=ll at *;go_wp2_with fail;refine HPL.out.mono ?_;rintro e w2 ⟨rfl,hb2⟩;have HB2:=zh hb2;have hz2:=(hb2.block (w.heap.size+1) (by have:=HSZ.out;omega)).trans HZ1.out;have HZ2:=zh hz2;obtain ⟨⟨z0,z1,z2,z3,z4⟩,⟨y0,y1,y2,y3,y4⟩⟩:=ai hz2;clear hb2 hz2 HPL;have hns:d.map M6.nm=inN v:=HD.out.2.1;by_cases hin:nm∈inN v
 ·have hlt:=List.idxOf_lt_length_of_mem hin;obtain ⟨i,hi⟩:∃ i,(inN v).idxOf nm=i:=⟨_,rfl⟩
  have hp:plc (d.map M6.nm) nm=(i:Int):=by rw [hns];unfold plc;rw [if_pos hin,hi]
  rw [hp];have HDC:=zh (zT hin);have hil:i<len:=by rw [hi,HLEN.out] at hlt;exact hlt
  have hid:i<d.length:=by rw [HD.out.1,HLN.out];exact hil
  obtain ⟨g,o,rfl,_,g2,hr⟩:=HD.out.2.2.1 (by omega);have hx:=(hr i hid).keep (W':=w2) (fun j=>HB2.out.cell (p:=⟨g,j,none⟩) (by show g<_;have:=HB1.out.size;omega));have hrd:=HD.out.2.2.2 i hid (by rw [HLN.out];exact hil);have hge:=qgE (nm:=nm) (by rw [HLN.out];exact hil) hi;have HRD:=zh hrd;have HGE:=zh hge;generalize d[i]=x at hx HRD;clear hr hrd hge hi hp hns hin hlt hid;obtain ⟨xx,xk,xn,xs,xA,xl,xc,xB,xm,xd⟩:=x;simp only [qbJ] at hx;obtain ⟨a0,a1,a2,a3,a4,a5⟩:=hx;generalize ae xx=X at *;have t1:decide ((i:Int)<0)=false:=zF (by omega);have t1b:¬((i:Int)<0):=by omega
  have k0:(0:Int)≤(i:Int):=by omega
  have k1:(i:Int)<(len:Int):=by omega
  have k2:((i:Int)).toNat=i:=by omega
  go_wp2;refine bodyPost_ret (qk2 rfl rfl rfl (bZ HZ2.out (.int .i64 xk) (.int .i64 xn) (.string xs) (.slice xA xl xc) (.slice xB xm xd))) rfl ?_;have hbb:=HB1.out.trans (HB2.out.mono HB1.out.size);refine ⟨⟨[.int .i64 xk,.int .i64 xn,.string xs,.slice xA xl xc,.slice xB xm xd],by rw [HDC.out];rfl,?_⟩,bu hbb (by omega) _ _ _ _ _⟩;rw [HGE.out];exact RdA.keep (fun p _ hp=>(HB1.out.cell (p:=p) (Nat.lt_of_lt_of_le hp hhi)).symm) (Nat.le_refl _) (Nat.le_refl _) _ _ HRD.out
 ·have hp:plc (d.map M6.nm) nm = -1:=by rw [hns];unfold plc;rw [if_neg hin]
  rw [hp];have HDC:=zh (zF hin);have hge:=qhI (HLEN.out.trans HLN.out.symm) hin;have HGE:=zh hge;clear hns hin hp hge;go_wp2;refine bodyPost_ret (qk2 rfl rfl rfl (bZ HZ2.out (.int .i64 0) (.int .i64 0) (.string ⟨#[]⟩) (.slice none 0 0) (.slice none 0 0))) rfl ?_;have hbb:=HB1.out.trans (HB2.out.mono HB1.out.size);refine ⟨⟨[.int .i64 0,.int .i64 0,.string ⟨#[]⟩,.slice none 0 0,.slice none 0 0],by rw [HDC.out];rfl,?_⟩,bu hbb (by omega) _ _ _ _ _⟩;rw [HGE.out];exact qj4 _ _ _
end Po
namespace Po
open Utf Sc Re Tr Nu
def qmm (y:V):List V:=if y.k=5 then y.l else [y]
def qjc (f:V→Option V):List V→Option (List V)
 | []=>some []
 | x::t=>(f x).bind fun y=>(qjc f t).map fun r=>qmm y++r
mutual
/-- a value for each name, in a value and in all within -/
def qlY:V→Prop
 | .mk _ _ _ l ns ms=>ns.length=ms.length∧qcp l∧qcp ms
def qcp:List V→Prop
 | []=>True
 | v::r=>qlY v∧qcp r
end
mutual
theorem qe3 {w:World} {lo hi:Nat}:∀ (v:V) (cs:List Value),RdA w lo hi v cs→qlY v
 | .mk k n s l ns ms,cs,h=>by
  rw [RdA] at h;obtain ⟨A,c,A2,c2,_,hn,hl,hm⟩:=h;rw [qlY];refine ⟨hn,?_,?_⟩
  ·cases l with
   | nil=>rw [qcp];trivial
   | cons v r=>obtain ⟨g,o,_,_,_,hr⟩:=hl (by simp);exact qjN (v::r) g o hr
  ·cases ms with
   | nil=>rw [qcp];trivial
   | cons v r=>obtain ⟨g,o,_,_,_,hr⟩:=hm (by simp);exact qh6 (v::r) ns g o hr
theorem qjN {w:World} {lo hi:Nat}:∀ (l:List V) (g o:Nat),aN w lo hi g o l→qcp l
 | [],_,_,_=>by rw [qcp];trivial
 | v::r,g,o,h=>by
  rw [aN] at h;obtain ⟨⟨cs,_,hv⟩,hr⟩:=h;rw [qcp];exact ⟨qe3 v cs hv,qjN r g (o+5) hr⟩
theorem qh6 {w:World} {lo hi:Nat}:∀ (ms:List V) (ns:List (List UInt8)) (g o:Nat),aL w lo hi g o ns ms→qcp ms
 | [],_,_,_,_=>by rw [qcp];trivial
 | v::r,ns,g,o,h=>by
  rw [aL] at h;obtain ⟨nm,ns',_,_,⟨cs,_,hv⟩,hr⟩:=h;rw [qcp];exact ⟨qe3 v cs hv,qh6 r ns' g (o+6) hr⟩
end
