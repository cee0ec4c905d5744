/- Merged: TrU TrW PaRaw CdRw. -/
import Derived.Test.YtofelafamfckiaaGreatDoorTt33
import Derived.Laws.CopyOwn
import Derived.Laws.CopyRow
import Derived.Laws.MakeOwn
import Derived.Test.YtofelafamfckiaaGreatDoorTt9
set_option maxRecDepth 100000
set_option maxHeartbeats 600000
namespace Go.Proofs.YtofelafamfckiaaGreatDoor
namespace Tr
open Go.Proofs Go.RowKit Go.Lib Utf Sc Re
theorem aI.of_items {w:World} {lo hi g:Nat}:∀ (ms:List V) (ns:List (List UInt8)) (o:Nat),ns.length=ms.length→(∀ k (h1:k<ms.length) (h2:k<ns.length),∃ cs,aw w g (o+k*6) (.string (ae ns[k])::cs)∧RdA w lo hi ms[k] cs)→aI w lo hi g o ns ms
 | [],ns,o,_,_=>by rw [aI];trivial
 | v::r,ns,o,hn,h=>by
  cases ns with
  | nil=>simp at hn
  | cons nm ns=>
   obtain ⟨cs,h1,h2⟩:=h 0 (by simp) (by simp);rw [aI];rw [Nat.zero_mul,Nat.add_zero] at h1;refine ⟨nm,ns,rfl,(h1 0 _ rfl).1,⟨cs,fun j u hu=>?_,h2⟩,aI.of_items r ns (o+6) (by simpa using hn) fun k k1 k2=>?_⟩
   ·have:=(h1 (j+1) u (by simpa using hu)).1;rwa [show o+(j+1)=o+1+j by omega] at this
   ·have:=h (k+1) (by simpa using k1) (by simpa using k2);rw [show o+6+k*6=o+(k+1)*6 by omega];exact this
def qjb (ns:List (List UInt8)) (ms:List V) (w:World) (e:Ending) (w':World):Prop:=
 (∃ A c,e = .returned (.agg #[.int .i64 6,.int .i64 0,.string ⟨#[]⟩,.slice none 0 0,.slice A ms.length c])∧ns.length=ms.length∧(0<ms.length→∃ g,A=some ⟨g,0,none⟩∧w.heap.size≤g∧g<w'.heap.size∧
  ∀ k (h1:k<ms.length) (h2:k<ns.length),∃ cs,aw w' g (k*6) (.string (ae ns[k])::cs)∧RdA w' 0 w.heap.size ms[k] cs))∧Below w.heap.size w w'
theorem qjb.rd {ns:List (List UInt8)} {ms:List V} {w w':World} {A:Option Addr} {c:Nat} (hc:ms.length≤c) (hn:ns.length=ms.length) (hb:w.heap.size≤w'.heap.size) (h:0<ms.length→∃ g,A=some ⟨g,0,none⟩∧w.heap.size≤g∧g<w'.heap.size∧
  ∀ k (h1:k<ms.length) (h2:k<ns.length),∃ cs,aw w' g (k*6) (.string (ae ns[k])::cs)∧RdA w' 0 w.heap.size ms[k] cs):RdA w' 0 w'.heap.size (mpV (ns,ms)) [.int .i64 6,.int .i64 0,.string ⟨#[]⟩,.slice none 0 0,.slice A ms.length c]:=by
 unfold mpV;rw [RdA];refine ⟨none,0,A,c-ms.length,by rw [Nat.add_sub_of_le hc];rfl,hn,fun h=>by simp at h,fun h0=>?_⟩;obtain ⟨g,e,g1,g2,hk⟩:=h h0;refine ⟨g,0,e,Nat.zero_le _,g2,aI.of_items ms ns 0 hn fun k k1 k2=>?_⟩;obtain ⟨cs,p1,p2⟩:=hk k k1 k2;rw [Nat.zero_add];exact ⟨cs,p1,RdA.keep (fun _ _ _=>rfl) (Nat.le_refl _) hb _ _ p2⟩
def qbM (v:V) (nm:List UInt8):List (List UInt8):=if nm∈inN v then inN v else inN v++[nm]
def qbH (v:V) (nm:List UInt8) (x:V):List V:=if nm∈inN v then (inM v).set ((inN v).idxOf nm) x else inM v++[x]
def woN (v:V) (nm:List UInt8):List (List UInt8):=(((inN v).zip (inM v)).filter fun p=>p.1≠nm).map Prod.fst
def woM (v:V) (nm:List UInt8):List V:=(((inN v).zip (inM v)).filter fun p=>p.1≠nm).map Prod.snd
def qdn (pd:List (M6×V)) (nm:List UInt8) (k:Nat):List (M6×V):=(pd.take k).filter fun p=>p.1.nm≠nm
end Tr
namespace Pa
open Go.Proofs Go.RowKit Go.Lib Utf Sc Re Tr
def qh1 (w:World) (hi:Nat) (A:Option Addr) (d:List M6):Prop:=
 0<d.length→∃ g o,A=some ⟨g,o,none⟩∧g<hi∧∀ i (h:i<d.length),qbk w g (o+i*6) d[i]
theorem qh1.keep {w w':World} {hi:Nat} {A:Option Addr} {d:List M6} (h:qh1 w hi A d) (hk:∀ p:Addr,p.block<hi→w'.cell? p=w.cell? p):qh1 w' hi A d:=fun h0=>by
 obtain ⟨g,o,e,g1,hr⟩:=h h0;exact ⟨g,o,e,g1,fun i hi=>(hr i hi).keep fun j=>hk ⟨g,j,none⟩ g1⟩
theorem qmU (d:List M6):∀ r∈d.map qck,r.length=6:=by
 intro r hr;obtain ⟨x,_,rfl⟩:=List.mem_map.1 hr;rfl
def qfT (d:List M6) (w:World) (e:Ending) (w':World):Prop:=
 (∃ A c,e = .returned (.agg #[.int .i64 6,.int .i64 0,.string ⟨#[]⟩,.slice none 0 0,.slice A d.length c])∧d.length≤c∧(0<d.length→∃ g,A=some ⟨g,0,none⟩∧w.heap.size≤g∧g<w'.heap.size∧
  ∀ k (h1:k<d.length),aw w' g (k*6) (qck d[k])))∧Below w.heap.size w w'
theorem qfI (n:Int) (S:ByteArray) (A A2:Option Addr) (l c l2 c2:Nat) (w:World) :
  Calls Tryz.prog 34 #[.agg #[.int .i64 6,.int .i64 n,.string S,.slice A l c,.slice A2 l2 c2]] w fun e w'=>e = .returned (.tuple #[.slice none 0 0,.slice A2 l2 c2])∧Below w.heap.size w w':=by
 refine (qbI 6 n S A A2 l c l2 c2 w).mono ?_;rintro e w1 ⟨⟨A',l',c',A2',l2',c2',rfl, -,h5,h6, -⟩,hb1⟩;obtain ⟨rfl,rfl,rfl⟩:=h5 (by decide);obtain ⟨rfl,rfl,rfl⟩:=h6 rfl;exact ⟨rfl,hb1⟩
def woD (d:List M6) (nm:List UInt8):List M6:=d.filter fun y=>y.nm≠nm
theorem qmt {d:List M6} {nm:List UInt8} {k:Nat} (hk:k<d.length) (h:d[k].nm=nm):woD (d.take (k+1)) nm=woD (d.take k) nm:=by
 unfold woD;rw [List.take_succ_eq_append_getElem hk,List.filter_append];simp [h]
theorem qlj {d:List M6} {nm:List UInt8} {k:Nat} (hk:k<d.length) (h:d[k].nm≠nm):woD (d.take (k+1)) nm=woD (d.take k) nm++[d[k]]:=by
 unfold woD;rw [List.take_succ_eq_append_getElem hk,List.filter_append];simp [h]
theorem qmN (d:List M6) (nm:List UInt8) (k:Nat):(woD (d.take k) nm).length≤k:=by
 unfold woD;exact Nat.le_trans (List.length_filter_le _ _) (by simp;omega)
theorem qia (l:List M6) (p:M6):((l++[p]).map qck).flatten=(l.map qck).flatten++qck p:=by simp
theorem qeO (d:List M6) (nn:Int) (S:ByteArray) (A0:Option Addr) (l c0:Nat) (A20:Option Addr) (c20:Nat) (nm:List UInt8) (w:World) (hd:qh1 w w.heap.size A20 d) (hz:d.length<1466015503701) :
  Calls Tryz.prog 19 #[.agg #[.int .i64 6,.int .i64 nn,.string S,.slice A0 l c0,.slice A20 d.length c20],.string (ae nm)] w (qfT (woD d nm) w):=by
 obtain ⟨i0,hi,hz0,hz1,hz2⟩:=info_parts qbi;have I0:=zh hi;have I1:=zh hz0;have I2:=zh hz1;have I3:=zh hz2;clear hi hz0 hz1 hz2;have hWD:woD d nm=woD (d.take d.length) nm:=by rw [List.take_length]
 generalize woD d nm=WD at hWD ⊢;have HWD:=zh hWD;clear hWD;have HD0:=zh hd;clear hd;obtain ⟨len,hln⟩:∃ len,d.length=len:=⟨_,rfl⟩
 have HLN:=zh hln;rw [hln] at hz HWD ⊢;clear hln;have HI:=zh (fun (W:World)=>qfI nn S A0 A20 l c0 len c20 W);obtain ⟨W0,hW0⟩:∃ W0,W0=((w.alloc (.cells #[.int .i64 6,.int .i64 nn,.string S,.slice A0 l c0,.slice A20 len c20] 25)).alloc (.cells #[.int .i64 0,.int .i64 0,.string ⟨#[]⟩,.slice none 0 0,.slice none 0 0] 25)):=⟨_,rfl⟩
 have HW0:=zh hW0;have HB0:Aside (Below w.heap.size w W0):=by rw [hW0];exact ((Below.refl _ _).alloc (Nat.le_refl _) _).alloc (by simp) _
 have HS0:Aside (W0.heap.size=w.heap.size+2):=(show W0.heap.size=_ from by rw [hW0,aC,aC])
 have HR0:Aside (W0.heap[w.heap.size+1]? = some (.cells #[.int .i64 0,.int .i64 0,.string ⟨#[]⟩,.slice none 0 0,.slice none 0 0] 25 (0,0))):=by
  rw [hW0,show w.heap.size+1=(w.alloc (.cells #[.int .i64 6,.int .i64 nn,.string S,.slice A0 l c0,.slice A20 len c20] 25)).heap.size by simp];exact ai _ _
 clear hW0;go_enter Tryz.func19,Tryz.ntmps19;go_wp2_with fail;rw [←HW0.out];refine (HI.out _).mono ?_;rintro e w1 ⟨rfl,hb1⟩;have HB1:Aside (Below w.heap.size w w1):=HB0.out.trans (hb1.mono HB0.out.size);have HR1:Aside _:=(hb1.block (w.heap.size+1) (by rw [HS0.out];omega)).trans HR0.out;have HS1:Aside (w.heap.size+2≤w1.heap.size):=by have:=hb1.size;rw [HS0.out] at this;exact this
 have HA:Aside (qh1 w1 w.heap.size A20 d):=HD0.out.keep (fun p hp=>HB1.out.cell (p:=p) hp);clear hb1 HI HB0 HR0;have HHZ:=zh hz;clear hz;go_wp2_with fail;go_loopw [7,17] (fun a si wr=>∃ k:Nat,si = .int .i64 k∧k≤len∧Aside (wr.ownsRow w1.heap.size 37 6 a (woD (d.take k) nm).length ((woD (d.take k) nm).map qck).flatten)∧Aside (Below w1.heap.size w1 wr)) (fun _ si _=>len-(intOf si).toNat)
 case atStart=>exact ⟨0,rfl,by omega,(show World.ownsRow _ _ _ _ _ _ _ from World.ownsRow_nil _ _ _ _),(show Below _ _ _ from Below.refl _ _)⟩
 case round=>
  obtain ⟨k,rfl,hk,hown,hbel⟩:=hrel;by_cases hlt:k<len
  ·have t1:decide ((k:Int)<(len:Int))=true:=zT (by omega);have t2:decide (k<len)=true:=zT hlt;have k0:(0:Int)≤(k:Int):=by omega
   have k1:(k:Int)<(len:Int):=by omega
   have k2:((k:Int)).toNat=k:=by omega
   have hz:=HHZ.out;have hkl:k<d.length:=by rw [HLN.out];exact hlt
   obtain ⟨b,off,rfl,hb,hc⟩:=HA.out (by omega);have hx:=(hc k hkl).keep (W':=wr) (fun j=>hbel.out.cell (p:=⟨b,j,none⟩) (by show b<_;have:=HB1.out.size;omega));clear hc;have HOW:=zh hown.out;clear hown;by_cases hxn:d[k].nm=nm
   ·have HK:=zh (qmt hkl hxn);have hq:((ae d[k].nm).toList==(ae nm).toList)=true:=by rw [hxn];exact beq_self_eq_true _
    generalize d[k]=x at hx hq;obtain ⟨xx,xk,xn,xs,xA,xl,xc,xB,xm,xd⟩:=x;simp only [qbk] at hx;obtain ⟨a0,a1,a2,a3,a4,a5⟩:=hx;simp only at hq;clear hxn;generalize ae xx=X at *;go_wp2;go_roundw
    case rel=>
     refine ⟨k+1,by go_num,by omega,?_,?_⟩
     ·rw [HK.out];exact HOW.out.alloc _
     ·exact (show Below _ _ _ from hbel.out.alloc hbel.out.size _)
    case measure=>simp [intOf];omega
   ·have HK:=zh (qlj hkl hxn);have hq:((ae d[k].nm).toList==(ae nm).toList)=false:=by
     rw [beq_eq_false_iff_ne];intro h;rw [aA,aA] at h;exact hxn h
    generalize d[k]=x at hx hq HK;obtain ⟨xx,xk,xn,xs,xA,xl,xc,xB,xm,xd⟩:=x;simp only [qbk] at hx;obtain ⟨a0,a1,a2,a3,a4,a5⟩:=hx;simp only at hq;clear hxn;have HLE:=zh (qmN d nm k);generalize hkp:woD (d.take k) nm=kp at *;have HKP:=zh hkp;clear hkp;have hsn:=qia kp ⟨xx,xk,xn,xs,xA,xl,xc,xB,xm,xd⟩;rw [show qck ⟨xx,xk,xn,xs,xA,xl,xc,xB,xm,xd⟩=[Value.string (ae xx),.int .i64 xk,.int .i64 xn,.string xs,.slice xA xl xc,.slice xB xm xd] from rfl] at hsn;have HSN:=zh hsn;clear hsn;obtain ⟨X,hX⟩:∃ X,ae xx=X:=⟨_,rfl⟩
    rw [hX] at hq a0 HSN;clear hX;have NEW:∀ j u,[Value.string X,.int .i64 xk,.int .i64 xn,.string xs,.slice xA xl xc,.slice xB xm xd][j]? = some u→((wr.alloc (.cells #[.string X,.int .i64 xk,.int .i64 xn,.string xs,.slice xA xl xc,.slice xB xm xd] 37)).alloc (.cells #[.string X,.int .i64 xk,.int .i64 xn,.string xs,.slice xA xl xc,.slice xB xm xd] 37)).cell? ((⟨wr.heap.size+1,0,none⟩:Addr).add j)=some u:=fun j u hu=>by
     rw [Addr.add_lit,Nat.zero_add];unfold World.cell?;rw [←aC wr (.cells #[.string X,.int .i64 xk,.int .i64 xn,.string xs,.slice xA xl xc,.slice xB xm xd] 37),ai];simpa using hu
    have HNEW:=zh NEW;clear NEW;go_wp2_with (at_builtin;refine wpList_append_own _ rfl _ _ 23 rfl w1.heap.size 37 i0 _ 6 96 Tryz.underlying23 I0.out I1.out I2.out I3.out rfl (by decide) u7 kp.length (kp.map qck).flatten rfl ((HOW.out.alloc _).alloc _) ⟨wr.heap.size+1,0,none⟩ 1 1 [Value.string X,.int .i64 xk,.int .i64 xn,.string xs,.slice xA xl xc,.slice xB xm xd] rfl rfl HNEW.out ?qc3 ?qc4 ?qc5 ?qc6 ?qc)
    case qc3=>simp [Value.oneCell']
    case qc4=>have:=HHZ.out;have:=HLE.out;unfold maxLen;omega
    case qc5=>have:=HHZ.out;have:=HLE.out;omega
    case qc6=>have:=hbel.out.size;simp;omega
    intro v' w5 hown hgrow hnil;have HO5:=zh hown;have HG5:=zh (show Below w1.heap.size w1 w5 from Below.grown ((hbel.out.alloc hbel.out.size _).alloc (by have:=hbel.out.size;rw [aC];omega) _) hgrow (by have:=hbel.out.size;rw [aC,aC];omega) (fun g hg=>(HOW.out.lt g hg).1));clear hown hgrow hnil;go_wp2;go_roundw
    case rel=>
     refine ⟨k+1,by go_num,by omega,?_,(show Below _ _ _ from HG5.out)⟩;rw [HK.out,List.length_append,HSN.out];exact (show World.ownsRow _ _ _ _ _ _ _ from HO5.out)
    case measure=>simp [intOf];omega
  ·have t1:decide ((k:Int)<(len:Int))=false:=zF (by omega);have t2:decide (k<len)=false:=zF hlt;have hkn:k=len:=by omega
   have HOW:=zh hown.out;rw [hkn,←HWD.out] at HOW;clear hown;obtain ⟨A',c',rfl⟩:=bQ HOW.out;have hr1:=(hbel.out.block (w.heap.size+1) (by have:=HS1.out;omega)).trans HR1.out;have HR:=zh hr1;obtain ⟨⟨z0,z1,z2,z3,z4⟩,⟨y0,y1,y2,y3,y4⟩⟩:=af hr1;clear hr1 hkn;go_wp2;refine bodyPost_ret (qfU rfl rfl (bC HR.out (.int .i64 6) (.int .i64 0) (.string ⟨#[]⟩) (.slice none 0 0) (.slice A' WD.length c'))) rfl ?_;have hbb:Below w.heap.size w wr:=HB1.out.trans (hbel.out.mono HB1.out.size);refine ⟨⟨A',c',rfl,qeu HOW.out,fun h0=>?_⟩,bc hbb (by omega) _ _ _ _ _⟩;obtain ⟨g,e,g1,g2,hc⟩:=qdl HOW.out h0;refine ⟨g,e,by have:=HS1.out;omega,Nat.lt_of_lt_of_eq g2 (qbt (w:=wr) (b:=w.heap.size+1) _ _ _ _ _).symm,fun kk h1=>?_⟩;refine aw.keep (w:=wr) ?_ (qb2 (by have:=HS1.out;omega) _ _ _ _ _);have:=hc.sub (qmU WD) kk (by rw [List.length_map];exact h1);rw [List.getElem_map,Nat.zero_add] at this;exact this
end Pa
namespace Cd
open Go.Proofs Go.RowKit Go.Lib Utf Sc Re Tr Po Pa
def tN (T:List (M6×V)):List (List UInt8):=T.map fun t=>t.1.nm
def tM (T:List (M6×V)):List V:=T.map Prod.snd
def mpT (T:List (M6×V)):V:=mpV (tN T,tM T)
theorem qeD (T:List (M6×V)):mem (mpT T)=T.map fun t=>(t.1.nm,t.2):=by
 show (tN T).zip (tM T)=_;unfold tN tM;induction T with
 | nil=>rfl
 | cons a r ih=>simp only [List.map_cons,List.zip_cons_cons,ih]
theorem qeR {w w':World} {e:Ending} {T:List (M6×V)} (h:qfT (T.map Prod.fst) w e w') (hr:∀ t∈T,RdA w 0 w.heap.size t.2 (qbm t.1)) :
  (∃ A c,e = .returned (.agg #[.int .i64 6,.int .i64 0,.string ⟨#[]⟩,.slice none 0 0,.slice A T.length c])∧RdA w' 0 w'.heap.size (mpT T) [.int .i64 6,.int .i64 0,.string ⟨#[]⟩,.slice none 0 0,.slice A T.length c])∧Below w.heap.size w w':=by
 obtain ⟨⟨A,c,rfl,hc,hx⟩,hb⟩:=h;have hdl:(T.map Prod.fst).length=T.length:=List.length_map ..;rw [hdl] at hc ⊢;have hl:(tM T).length=T.length:=by unfold tM;rw [List.length_map]
 refine ⟨⟨A,c,rfl,?_⟩,hb⟩;have key:=qjb.rd (ns:=tN T) (ms:=tM T) (w:=w) (w':=w') (A:=A) (c:=c) (by rw [hl];exact hc) (by unfold tN tM;rw [List.length_map,List.length_map]) hb.size fun h0=>by
  rw [hl] at h0;obtain ⟨g,e,g1,g2,hk⟩:=hx (by rw [hdl];exact h0);refine ⟨g,e,g1,g2,fun k h1 h2=>?_⟩;have hkT:k<T.length:=by rw [←hl];exact h1
  have hkd:k<(T.map Prod.fst).length:=by rw [List.length_map];exact hkT
  refine ⟨qbm T[k].1,?_,?_⟩
  ·have:=hk k hkd;rw [List.getElem_map] at this;simp only [tN,List.getElem_map];exact this
  ·simp only [tM,List.getElem_map];exact RdA.keep (fun p _ hp=>hb.cell (p:=p) hp) (Nat.le_refl _) (Nat.le_refl _) _ _ (hr _ (List.getElem_mem hkT))
 rw [hl] at key;exact key
theorem qaS {w:World} {v:V} {cs:List Value} (hv:RdA w 0 w.heap.size v cs):∃ (A:Option Addr) (c:Nat) (A2:Option Addr) (c2:Nat) (T:List (M6×V)),cs=[.int .i64 v.k,.int .i64 v.n,.string (ae v.s),.slice A v.l.length c,.slice A2 T.length c2]∧
  T.length=v.ms.length∧tM T=v.ms∧tN T=v.ns∧qh1 w w.heap.size A2 (T.map Prod.fst)∧(∀ t∈T,RdA w 0 w.heap.size t.2 (qbm t.1))∧v.ns.length=v.ms.length:=by
 obtain ⟨A,c,A2,c2,e,hn, -,hm⟩:=hv.cells;obtain ⟨d,hd1,hd2,hd3,hd4⟩:=qeg hn hm;refine ⟨A,c,A2,c2,d.zip v.ms,?_,?_,?_,?_,?_,?_,hn⟩
 ·rw [e,List.length_zip,hd1,Nat.min_self]
 ·rw [List.length_zip,hd1,Nat.min_self]
 ·unfold tM;exact List.map_snd_zip (by omega)
 ·unfold tN;rw [←hd2,show (fun t:M6×V=>t.1.nm)=M6.nm ∘ Prod.fst from rfl,←List.map_map,List.map_fst_zip (by omega)]
 ·rw [List.map_fst_zip (by omega)];intro h0;obtain ⟨g,o,e,_,g2,hr⟩:=hd3 h0;exact ⟨g,o,e,g2,hr⟩
 ·intro t ht;obtain ⟨i,hi,rfl⟩:=List.getElem_of_mem ht;rw [List.length_zip] at hi;rw [List.getElem_zip];exact hd4 i (by omega) (by omega)
theorem qjC (T:List (M6×V)) (nm:List UInt8):woD (T.map Prod.fst) nm=(T.filter fun t=>decide (t.1.nm≠nm)).map Prod.fst:=by
 unfold woD;rw [List.filter_map];rfl
theorem qjT {B:Nat} {T:List (M6×V)} (h1:∀ t∈T,szA B t.2∧t.1.nm.length≤B) (h2:T.length*96≤B):szA B (mpT T):=by
 rw [bt];refine ⟨show (Lit.int .i64 6).wf=true by decide,show (Lit.int .i64 0).wf=true by decide,Nat.zero_le _,Nat.zero_le _,?_,?_,trivial,?_⟩
 ·show (tM T).length*96≤B;unfold tM;rw [List.length_map];exact h2
 ·intro nm hn;obtain ⟨t,ht,rfl⟩:=List.mem_map.1 (show nm∈T.map _ from hn);exact (h1 t ht).2
 ·have:∀ l:List V,(∀ x∈l,szA B x)→aK B l:=fun l=>by
   induction l with
   | nil=>intro _;rw [aK];trivial
   | cons a r ih=>intro h;rw [aK];exact ⟨h a List.mem_cons_self,ih fun x hx=>h x (List.mem_cons_of_mem _ hx)⟩
  refine this _ fun x hx=>?_;obtain ⟨t,ht,rfl⟩:=List.mem_map.1 (show x∈T.map Prod.snd from hx);exact (h1 t ht).1
theorem qgu {B:Nat} {v:V} {T:List (M6×V)} (hz:szA B v) (h1:tM T=v.ms) (h2:tN T=v.ns):∀ t∈T,szA B t.2∧t.1.nm.length≤B:=fun t ht=>by
 have:=(bt B v).1 hz;refine ⟨aR this.2.2.2.2.2.2.2 ?_,this.2.2.2.2.2.1 _ ?_⟩
 ·rw [←h1];exact List.mem_map.2 ⟨t,ht,rfl⟩
 ·rw [←h2];exact List.mem_map.2 ⟨t,ht,rfl⟩
theorem qbK {v:V} {T:List (M6×V)} (h1:tM T=v.ms) (h2:tN T=v.ns):mem v=T.map fun t=>(t.1.nm,t.2):=by
 rw [←qeD];show v.ns.zip v.ms=(tN T).zip (tM T);rw [h1,h2]
theorem qdi {v:V} {T:List (M6×V)} (h1:tM T=v.ms) (h2:tN T=v.ns) (nm:List UInt8):(mpT (T.filter fun t=>decide (t.1.nm≠nm))).k=6∧mem (mpT (T.filter fun t=>decide (t.1.nm≠nm)))=(mem v).filter (fun m=>decide (m.1≠nm))∧
  ∀ n,n∈(mpT (T.filter fun t=>decide (t.1.nm≠nm))).ns↔n∈v.ns∧n≠nm:=by
 refine ⟨rfl,?_,fun n=>?_⟩
 ·rw [qeD,qbK h1 h2,List.filter_map];rfl
 ·rw [←h2];show n∈tN (T.filter fun t=>decide (t.1.nm≠nm))↔n∈tN T∧n≠nm;unfold tN;simp only [List.mem_map,List.mem_filter,decide_eq_true_eq];constructor
  ·rintro ⟨t,⟨a,b⟩,rfl⟩;exact ⟨⟨t,a,rfl⟩,b⟩
  ·rintro ⟨⟨t,a,rfl⟩,b⟩;exact ⟨t,⟨a,b⟩,rfl⟩
