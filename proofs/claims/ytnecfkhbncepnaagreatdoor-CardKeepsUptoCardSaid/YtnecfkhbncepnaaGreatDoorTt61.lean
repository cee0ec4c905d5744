/- Merged: CdP CdQ0 CdQ CdR0 PaKp CdKp. -/
import Derived.Test.YtnecfkhbncepnaaGreatDoorTt48
import Derived.Test.YtnecfkhbncepnaaGreatDoorTt49
import Derived.Test.YtnecfkhbncepnaaGreatDoorTt55
set_option maxRecDepth 100000
set_option maxHeartbeats 4000000
namespace Go.Proofs.YtnecfkhbncepnaaGreatDoor
namespace Cd
open Go.Proofs Go.RowKit Go.Lib Utf Sc Re Tr
open Sm (Pr prV)
open Wo (Tl)
theorem qe6 (p:Pr) (k n:Int) (s:List UInt8) (A A2:Option Addr) (l c m d:Nat) (w:World) :
  Calls Tryz.prog 56 #[prV p,.agg #[.int .i64 k,.int .i64 n,.string (aa s),.slice A l c,.slice A2 m d]] w (Tl (if p.df=[] then false else if p.fm=3 then decide (n=0) else decide (s=p.df)) w):=by
 obtain ⟨pn,q1,ar,q3,df⟩:=p;show Calls _ _ #[.agg #[.string (aa pn),.int .i64 q1,.string (aa ar),.bool q3,.string (aa df)],_] w (Tl (if df=[] then false else if q1=3 then decide (n=0) else decide (s=df)) w);have HD:=zh (show (aa df).toList=df from ak df);have HE:=zh (show (aa s).toList=s from ak s);obtain ⟨q4,h4⟩:∃ x,aa df=x:=⟨_,rfl⟩
 obtain ⟨S,hS⟩:∃ x,aa s=x:=⟨_,rfl⟩
 rw [h4] at HD ⊢;rw [hS] at HE ⊢;generalize aa pn=q0;generalize aa ar=q2;obtain ⟨r,hr⟩:∃ r,(if df=[] then false else if q1=3 then decide (n=0) else decide (s=df))=r:=⟨_,rfl⟩
 rw [hr];have HRV:=zh hr;clear h4 hS hr;obtain ⟨W0,hW0⟩:∃ W0,W0=(w.alloc (.cells #[.string q0,.int .i64 q1,.string q2,.bool q3,.string q4] 76)).alloc (.cells #[.int .i64 k,.int .i64 n,.string S,.slice A l c,.slice A2 m d] 25):=⟨_,rfl⟩
 have HB0:=zh (show Below w.heap.size w W0 by rw [hW0];exact ((Below.refl _ _).alloc (Nat.le_refl _) _).alloc (by rw [aF];exact Nat.le_succ _) _);have HP0:=zh (show W0.heap[w.heap.size]? = some (.cells #[.string q0,.int .i64 q1,.string q2,.bool q3,.string q4] 76 (0,0)) by rw [hW0];exact (Below.heap_alloc _ _ _ (by rw [aF];exact Nat.lt_succ_self _)).trans (ag _ _));have HV0:=zh (show W0.heap[w.heap.size+1]? = some (.cells #[.int .i64 k,.int .i64 n,.string S,.slice A l c,.slice A2 m d] 25 (0,0)) by rw [hW0];have:=ag (w.alloc (.cells #[.string q0,.int .i64 q1,.string q2,.bool q3,.string q4] 76)) (.cells #[.int .i64 k,.int .i64 n,.string S,.slice A l c,.slice A2 m d] 25);rwa [aF] at this);have HW0:=zh hW0;clear hW0;by_cases h0:df=[]
 ·have t1:(q4.toList==[])=true:=by rw [HD.out,h0];rfl
  have t2:q4.toList=[]:=by rw [HD.out,h0]
  have t3:q4.toList.isEmpty=true:=by rw [HD.out,h0];rfl
  have HL:=zh (show r=false by rw [←HRV.out,if_pos h0]);clear h0;go_enter Tryz.func56,Tryz.ntmps56;have q:=HP0.out;rw [HW0.out] at q;obtain ⟨⟨p0,p1,p2,p3,p4⟩, -⟩:=Sm.aU q;clear q;have q:=HV0.out;rw [HW0.out] at q;obtain ⟨⟨v0,v1,v2,v3,v4⟩, -⟩:=ae q;clear q;go_wp2_with fail;go_ret;exact ⟨by rw [HL.out];rfl,by rw [←HW0.out];exact HB0.out⟩
 ·have t1:(q4.toList==[])=false:=by rw [HD.out];exact beq_eq_false_iff_ne.2 h0
  have t2:¬q4.toList=[]:=by rw [HD.out];exact h0
  have t3:q4.toList.isEmpty=false:=by rw [HD.out];cases df with | nil=>exact absurd rfl h0 | cons a r=>rfl
  have HR:=zh h0;clear h0;by_cases h3:q1=3
  ·subst h3;by_cases hn:n=0
   ·have HL:=zh (show r=true by rw [←HRV.out,if_neg HR.out,if_pos rfl,zT hn]);subst hn;go_enter Tryz.func56,Tryz.ntmps56;have q:=HP0.out;rw [HW0.out] at q;obtain ⟨⟨p0,p1,p2,p3,p4⟩, -⟩:=Sm.aU q;clear q;have q:=HV0.out;rw [HW0.out] at q;obtain ⟨⟨v0,v1,v2,v3,v4⟩, -⟩:=ae q;clear q;go_wp2_with fail;go_ret;exact ⟨by rw [HL.out];rfl,by rw [←HW0.out];exact HB0.out⟩
   ·have u1:(n==0)=false:=beq_eq_false_iff_ne.2 hn;have HL:=zh (show r=false by rw [←HRV.out,if_neg HR.out,if_pos rfl,zF hn]);clear hn;go_enter Tryz.func56,Tryz.ntmps56;have q:=HP0.out;rw [HW0.out] at q;obtain ⟨⟨p0,p1,p2,p3,p4⟩, -⟩:=Sm.aU q;clear q;have q:=HV0.out;rw [HW0.out] at q;obtain ⟨⟨v0,v1,v2,v3,v4⟩, -⟩:=ae q;clear q;go_wp2_with fail;go_ret;exact ⟨by rw [HL.out];rfl,by rw [←HW0.out];exact HB0.out⟩
  ·have u1:(q1==3)=false:=beq_eq_false_iff_ne.2 h3;have HQ:=zh h3;clear h3;by_cases hs:s=df
   ·have x1:(S.toList==q4.toList)=true:=by rw [HD.out,HE.out,hs];exact beq_self_eq_true _
    have x2:S.toList=q4.toList:=by rw [HD.out,HE.out,hs]
    have HL:=zh (show r=true by rw [←HRV.out,if_neg HR.out,if_neg HQ.out,zT hs]);clear hs;go_enter Tryz.func56,Tryz.ntmps56;have q:=HP0.out;rw [HW0.out] at q;obtain ⟨⟨p0,p1,p2,p3,p4⟩, -⟩:=Sm.aU q;clear q;have q:=HV0.out;rw [HW0.out] at q;obtain ⟨⟨v0,v1,v2,v3,v4⟩, -⟩:=ae q;clear q;go_wp2_with fail;go_ret;exact ⟨by rw [HL.out];rfl,by rw [←HW0.out];exact HB0.out⟩
   ·have x1:(S.toList==q4.toList)=false:=by rw [HD.out,HE.out];exact beq_eq_false_iff_ne.2 hs
    have x2:¬S.toList=q4.toList:=by rw [HD.out,HE.out];exact hs
    have HL:=zh (show r=false by rw [←HRV.out,if_neg HR.out,if_neg HQ.out,zF hs]);clear hs;go_enter Tryz.func56,Tryz.ntmps56;have q:=HP0.out;rw [HW0.out] at q;obtain ⟨⟨p0,p1,p2,p3,p4⟩, -⟩:=Sm.aU q;clear q;have q:=HV0.out;rw [HW0.out] at q;obtain ⟨⟨v0,v1,v2,v3,v4⟩, -⟩:=ae q;clear q;go_wp2_with fail;go_ret;exact ⟨by rw [HL.out];rfl,by rw [←HW0.out];exact HB0.out⟩
end Cd
namespace Cd
open Go.Proofs Go.RowKit Go.Lib Utf Sc Re Tr
def LnC (h:Nat):Prop:=∀ (of:List UInt8) (v:V) (cs:List Value) (F:List Nat) (w:World),ht v<h→RdF w v cs F→F.Nodup→(∀ x∈F,x<w.heap.size)→szA 140737488355328 v→
 Calls Tryz.prog 29 #[.string (aa of),.agg cs.toArray] w (qdw (aw of v) F w)
def qaD (s o0 N:Nat) (A:Option Addr) (F:List Nat) (l:List V) (Gs0:List (List Nat)) (f:V→V) (j:Nat) (w:World):Prop:=
 l.length=0∨∃ g lc Gs,0<l.length∧A=some ⟨g,0,none⟩∧g∈F∧Lq s o0 N g F l Gs0 f j lc Gs w
theorem qd2 {F:List Nat} {w W0 w1:World} {u:V} {cs:List Value} {G:List Nat} {b:Nat} (hB:Below w.heap.size w W0) (hb:w.heap.size≤b) (hb2:b<W0.heap.size) (hF:∀ x∈F,x<w.heap.size) (h:RdF w1 u cs G) (hn:G.Nodup)
  (hG:∀ x∈G,(x∈F∨W0.heap.size≤x)∧x<w1.heap.size) (hc:aA F W0 w1) (v0 v1 v2 v3 v4:Value) :
  RdF (st5 w1 b v0 v1 v2 v3 v4) u cs G∧G.Nodup∧(∀ x∈G,(x∈F∨w.heap.size≤x)∧x<(st5 w1 b v0 v1 v2 v3 v4).heap.size)∧aA F w (st5 w1 b v0 v1 v2 v3 v4):=by
 have hs:=hB.size;have hs1:=hc.size;refine ⟨RdF.keep _ _ _ (fun k hk=>ci (fun e=>?_) _ _ _ _ _) h,hn,fun x hx=>⟨(hG x hx).1.imp id (fun h=>by omega),by rw [dW];exact (hG x hx).2⟩,?_⟩
 ·rcases (hG k hk).1 with h1 | h1
  ·have:=hF k h1;omega
  ·omega
 ·have hst:Below b w1 (st5 w1 b v0 v1 v2 v3 v4):=co ⟨rfl,rfl,rfl,by omega,fun _ _=>rfl⟩ (Nat.le_refl _) _ _ _ _ _;refine ⟨hst.os.trans (hc.os.trans hB.os),hst.tape.trans (hc.tape.trans hB.tape),hst.output.trans (hc.output.trans hB.output),by rw [dW];omega,fun k hk hkF=>?_⟩;rw [ci (show k≠b by omega)];exact (hc.block k (by omega) hkF).trans (hB.block k hk)
theorem qqG {w W0 wr:World} {v:V} {cs:List Value} {A A2:Option Addr} {c d:Nat} {FL FM:List Nat} {f:V→V} {Gs0:List (List Nat)} (hv:RdF w v cs (FL++FM)) (hFM:(v.ms.length=0∧FM=[])∨∃ g T,0<v.ms.length∧A2=some ⟨g,0,none⟩∧FM=g::T∧bf w g 0 v.ns v.ms T)
  (e:cs=[.int .i64 v.k,.int .i64 v.n,.string (aa v.s),.slice A v.l.length c,.slice A2 v.ms.length d]) (hnl:v.ns.length=v.ms.length) (hnd:(FL++FM).Nodup) (hlt:∀ x∈FL++FM,x<w.heap.size) (hB:Below w.heap.size w W0)
  (hL:qaD 5 0 W0.heap.size A FL v.l Gs0 f v.l.length wr) (hc:aA FL W0 wr) :
  ∃ G,RdF wr (.mk v.k v.n v.s (v.l.map f) v.ns v.ms) cs G∧G.Nodup∧(∀ x∈G,(x∈FL++FM∨W0.heap.size≤x)∧x<wr.heap.size)∧aA (FL++FM) W0 wr:=by
 have hcap:=hv.caps e;rw [List.nodup_append] at hnd;have hs:=hB.size;have hs1:=hc.size;have keepM:∀ x∈FM,wr.heap[x]? = w.heap[x]?:=fun x hx=>(hc.block x (by have:=hlt x (by simp [hx]);omega) fun hy=>hnd.2.2 x hy x hx rfl).trans (hB.block x (hlt x (by simp [hx])));have PM:(v.ms.length=0∧FM=[])∨∃ g T,0<v.ms.length∧A2=some ⟨g,0,none⟩∧FM=g::T∧bf wr g 0 v.ns v.ms T:=by
  rcases hFM with h | ⟨g,T,h0,e,rfl,hr⟩
  ·exact .inl h
  ·exact .inr ⟨g,T,h0,e,rfl,bf.keep v.ms g 0 v.ns T (keepM g (by simp)) (fun x hx=>keepM x (by simp [hx])) hr⟩
 have fin:∀ (G:List Nat),((v.l.length=0∧G=[])∨∃ g T,0<v.l.length∧A=some ⟨g,0,none⟩∧G=g::T∧bz wr g 0 (v.l.map f) T)→G.Nodup→(∀ x∈G,(x∈FL∨W0.heap.size≤x)∧x<wr.heap.size)→
   ∃ G,RdF wr (.mk v.k v.n v.s (v.l.map f) v.ns v.ms) cs G∧G.Nodup∧(∀ x∈G,(x∈FL++FM∨W0.heap.size≤x)∧x<wr.heap.size)∧aA (FL++FM) W0 wr:=fun G hG hGn hGs=>by
  refine ⟨G++FM,RdF.of_cells ⟨A,c,A2,d,G,FM,(by show (v.l.map f).length≤c;rw [List.length_map];exact hcap.1),hcap.2,?_,hnl,rfl,?_,PM⟩,?_,fun x hx=>?_,hc.more fun x hx=>by simp [hx]⟩
  ·rw [e];show _=[Value.int .i64 v.k,.int .i64 v.n,.string (aa v.s),.slice A (v.l.map f).length c,.slice A2 v.ms.length d]
   rw [List.length_map]
  ·rcases hG with ⟨h1,h2⟩ | ⟨g,T,h1,h2⟩
   ·exact .inl ⟨by show (v.l.map f).length=0;rw [List.length_map];exact h1,h2⟩
   ·exact .inr ⟨g,T,by show 0<(v.l.map f).length;rw [List.length_map];exact h1,h2⟩
  ·rw [List.nodup_append];refine ⟨hGn,hnd.2.1,fun a ha b hb e=>?_⟩;subst e;rcases (hGs a ha).1 with h1 | h1
   ·exact hnd.2.2 a h1 a hb rfl
   ·have:=hlt a (by simp [hb]);omega
  ·rcases List.mem_append.1 hx with h1 | h1
   ·exact ⟨(hGs x h1).1.imp (fun h=>by simp [h]) id,(hGs x h1).2⟩
   ·have:=hlt x (by simp [h1]);exact ⟨.inl (by simp [h1]),by omega⟩
 rcases hL with h0 | ⟨g,lc,Gs,h0,eA,hg,hq⟩
 ·exact fin [] (.inl ⟨h0,rfl⟩) List.nodup_nil (fun x hx=>by cases hx)
 ·have hlc:=hq.end_;subst hlc;refine fin (g::Gs.flatten) (.inr ⟨g,_,h0,eA,rfl,bz.of_items _ Gs 0 hq.it.len fun j h1 h2=>?_⟩) hq.it.nod fun x hx=>⟨?_,hq.it.lt x hx⟩
  ·obtain ⟨cc,u1,u2⟩:=hq.it.at_ j h1 h2;rw [Nat.zero_add];exact ⟨cc,u1,u2⟩
  ·rcases List.mem_cons.1 hx with rfl | hx
   ·exact .inl hg
   ·exact hq.sub x hx
theorem qks {w W0 wr:World} {v:V} {cs:List Value} {A A2:Option Addr} {c d:Nat} {FL FM:List Nat} {f:V→V} {Gs0:List (List Nat)} (hv:RdF w v cs (FL++FM)) (hFL:(v.l.length=0∧FL=[])∨∃ g T,0<v.l.length∧A=some ⟨g,0,none⟩∧FL=g::T∧bz w g 0 v.l T)
  (e:cs=[.int .i64 v.k,.int .i64 v.n,.string (aa v.s),.slice A v.l.length c,.slice A2 v.ms.length d]) (hnl:v.ns.length=v.ms.length) (hnd:(FL++FM).Nodup) (hlt:∀ x∈FL++FM,x<w.heap.size) (hB:Below w.heap.size w W0)
  (hL:qaD 6 1 W0.heap.size A2 FM v.ms Gs0 f v.ms.length wr) (hNm:∀ g,A2=some ⟨g,0,none⟩→0<v.ms.length→cW g v.ns wr) (hc:aA FM W0 wr) :
  ∃ G,RdF wr (.mk v.k v.n v.s v.l v.ns (v.ms.map f)) cs G∧G.Nodup∧(∀ x∈G,(x∈FL++FM∨W0.heap.size≤x)∧x<wr.heap.size)∧aA (FL++FM) W0 wr:=by
 have hcap:=hv.caps e;rw [List.nodup_append] at hnd;have hs:=hB.size;have hs1:=hc.size;have keepL:∀ x∈FL,wr.heap[x]? = w.heap[x]?:=fun x hx=>(hc.block x (by have:=hlt x (by simp [hx]);omega) fun hy=>hnd.2.2 x hx x hy rfl).trans (hB.block x (hlt x (by simp [hx])));have PL:(v.l.length=0∧FL=[])∨∃ g T,0<v.l.length∧A=some ⟨g,0,none⟩∧FL=g::T∧bz wr g 0 v.l T:=by
  rcases hFL with h | ⟨g,T,h0,e,rfl,hr⟩
  ·exact .inl h
  ·exact .inr ⟨g,T,h0,e,rfl,bz.keep v.l g 0 T (keepL g (by simp)) (fun x hx=>keepL x (by simp [hx])) hr⟩
 have fin:∀ (G:List Nat),((v.ms.length=0∧G=[])∨∃ g T,0<v.ms.length∧A2=some ⟨g,0,none⟩∧G=g::T∧bf wr g 0 v.ns (v.ms.map f) T)→G.Nodup→(∀ x∈G,(x∈FM∨W0.heap.size≤x)∧x<wr.heap.size)→
   ∃ G,RdF wr (.mk v.k v.n v.s v.l v.ns (v.ms.map f)) cs G∧G.Nodup∧(∀ x∈G,(x∈FL++FM∨W0.heap.size≤x)∧x<wr.heap.size)∧aA (FL++FM) W0 wr:=fun G hG hGn hGs=>by
  refine ⟨FL++G,RdF.of_cells ⟨A,c,A2,d,FL,G,hcap.1,(by show (v.ms.map f).length≤d;rw [List.length_map];exact hcap.2),?_,(by show v.ns.length=(v.ms.map f).length;rw [List.length_map];exact hnl),rfl,PL,?_⟩,?_,fun x hx=>?_,hc.more fun x hx=>by simp [hx]⟩
  ·rw [e];show _=[Value.int .i64 v.k,.int .i64 v.n,.string (aa v.s),.slice A v.l.length c,.slice A2 (v.ms.map f).length d]
   rw [List.length_map]
  ·rcases hG with ⟨h1,h2⟩ | ⟨g,T,h1,h2⟩
   ·exact .inl ⟨by show (v.ms.map f).length=0;rw [List.length_map];exact h1,h2⟩
   ·exact .inr ⟨g,T,by show 0<(v.ms.map f).length;rw [List.length_map];exact h1,h2⟩
  ·rw [List.nodup_append];refine ⟨hnd.1,hGn,fun a ha b hb e=>?_⟩;subst e;rcases (hGs a hb).1 with h1 | h1
   ·exact hnd.2.2 a ha a h1 rfl
   ·have:=hlt a (by simp [ha]);omega
  ·rcases List.mem_append.1 hx with h1 | h1
   ·have:=hlt x (by simp [h1]);exact ⟨.inl (by simp [h1]),by omega⟩
   ·exact ⟨(hGs x h1).1.imp (fun h=>by simp [h]) id,(hGs x h1).2⟩
 rcases hL with h0 | ⟨g,lc,Gs,h0,eA,hg,hq⟩
 ·exact fin [] (.inl ⟨h0,rfl⟩) List.nodup_nil (fun x hx=>by cases hx)
 ·have hlc:=hq.end_;subst hlc;have hnm:=hNm g eA h0;refine fin (g::Gs.flatten) (.inr ⟨g,_,h0,eA,rfl,bf.of_items _ v.ns Gs 0 hq.it.len (by rw [List.length_map];exact hnl) fun j h1 h2 h3=>?_⟩) hq.it.nod fun x hx=>⟨?_,hq.it.lt x hx⟩
  ·obtain ⟨cc,u1,u2⟩:=hq.it.at_ j h1 h2;rw [Nat.zero_add];exact ⟨cc,ca.2 ⟨hnm j h3,u1⟩,u2⟩
  ·rcases List.mem_cons.1 hx with rfl | hx
   ·exact .inl hg
   ·exact hq.sub x hx
end Cd
namespace Cd
open Go.Proofs Go.RowKit Go.Lib Utf Sc Re Tr
open Sm (Pr prV)
open Wo (Tl)
theorem qer {h:Nat} (HL:LnC h) (p:Pr) (v:V) (cs:List Value) (F:List Nat) (w:World) (hh:ht v<h) (hv:RdF w v cs F) (hnd:F.Nodup) (hlt:∀ x∈F,x<w.heap.size) (hz:szA 140737488355328 v) :
  Calls Tryz.prog 57 #[prV p,.agg cs.toArray] w (qdw (bQ aw p v) F w):=by
 have mixed:Tryz.prog.follows .mixedOrders=true:=by kernel_rfl
 obtain ⟨A,c,A2,d,FL,FM,ecs,hnl,rfl,hFL,hFM⟩:=hv.cells;obtain ⟨-, -, -,z4,z5, -,z7,z8⟩:=(cI _ v).1 hz;have hnd':=hnd;rw [List.nodup_append] at hnd';have HHT:=zh hh;have HV:=zh hv;have HND:=zh hnd;have HLT:=zh hlt;have HZ:=zh hz;have HZ7:=zh z7;have HZ8:=zh z8;have HLL:=zh HL;have HFL:=zh hFL;have HFM:=zh hFM;have HECS:=zh ecs;have HNL:=zh hnl;have HNP:=zh hnd';obtain ⟨pn,q1,ar,q3,df⟩:=p;show Calls _ _ #[.agg #[.string (aa pn),.int .i64 q1,.string (aa ar),.bool q3,.string (aa df)],_] w _;have HE12:=zh (show q1=12→bQ aw ⟨pn,q1,ar,q3,df⟩ v=aw ar v from fun e=>by unfold bQ;rw [if_pos e]);have HE18:=zh (show q1=18→bQ aw ⟨pn,q1,ar,q3,df⟩ v=aw (bK v) v from fun e=>by unfold bQ;rw [if_neg (by show ¬q1=12;omega),if_pos e]);have HE13:=zh (show q1=13→bQ aw ⟨pn,q1,ar,q3,df⟩ v = .mk v.k v.n v.s (v.l.map (aw ar)) v.ns v.ms from fun e=>by unfold bQ;rw [if_neg (by show ¬q1=12;omega),if_neg (by show ¬q1=18;omega),if_pos e]);have HE14:=zh (show q1=14∨q1=15→bQ aw ⟨pn,q1,ar,q3,df⟩ v = .mk v.k v.n v.s v.l v.ns (v.ms.map (aw ar)) from fun e=>by unfold bQ;rw [if_neg (by show ¬q1=12;omega),if_neg (by show ¬q1=18;omega),if_neg (by show ¬q1=13;omega),if_pos e]);have HE0:=zh (show q1≠12→q1≠18→q1≠13→q1≠14→q1≠15→bQ aw ⟨pn,q1,ar,q3,df⟩ v=v from fun e1 e2 e3 e4 e5=>by unfold bQ;rw [if_neg e1,if_neg e2,if_neg e3,if_neg (show ¬(q1=14∨q1=15) by omega)]);generalize aa pn=q0;generalize aa df=q4;obtain ⟨q2,h2⟩:∃ x,aa ar=x:=⟨_,rfl⟩
 have HAR:=zh h2;rw [h2];generalize bQ aw ⟨pn,q1,ar,q3,df⟩ v=res at *;have HDT:=zh (fun (u:World) (hu:Below w.heap.size w u)=>qcu v cs u ((RdF.toA (lo:=0) (hi:=w.heap.size) _ _ _ (fun x hx=>⟨Nat.zero_le _,hlt x hx⟩) hv).below hu (Nat.le_refl _) hu.size) (Em.qpk (by decide) _ hz));rw [ecs] at HDT ⊢;have HIL:=zh (fun (of:List UInt8) (u:World) (hu:Below w.heap.size w u)=>HL of v cs (FL++FM) u hh (RdF.keep _ _ _ (fun k hk=>hu.block k (hlt k hk)) hv) hnd (fun x hx=>Nat.lt_of_lt_of_le (hlt x hx) hu.size) hz);rw [ecs] at HIL;obtain ⟨k,hk⟩:∃ x,v.k=x:=⟨_,rfl⟩
 obtain ⟨n,hn⟩:∃ x,v.n=x:=⟨_,rfl⟩
 obtain ⟨S,hS⟩:∃ x,aa v.s=x:=⟨_,rfl⟩
 obtain ⟨l,hl⟩:∃ x,v.l.length=x:=⟨_,rfl⟩
 obtain ⟨m,hm⟩:∃ x,v.ms.length=x:=⟨_,rfl⟩
 have HLEN:=zh hl;have HMEN:=zh hm;have HEC:=zh (show cs=[.int .i64 k,.int .i64 n,.string S,.slice A l c,.slice A2 m d] by rw [ecs,hk,hn,hS,hl,hm]);rw [hk,hn,hS,hl,hm] at HDT HIL ⊢;rw [hl] at z4;rw [hm] at z5;clear h2 hk hn hS hl hm ecs hh hv hnd hlt hz z7 z8 hFL hFM hnl hnd' HL;obtain ⟨Wa,hWa⟩:∃ Wa,Wa=w.alloc (.cells #[.string q0,.int .i64 q1,.string q2,.bool q3,.string q4] 76):=⟨_,rfl⟩
 obtain ⟨Wb,hWb⟩:∃ Wb,Wb=Wa.alloc (.cells #[.int .i64 k,.int .i64 n,.string S,.slice A l c,.slice A2 m d] 25):=⟨_,rfl⟩
 obtain ⟨W0,hW0⟩:∃ W0,W0=Wb.alloc (.cells #[.int .i64 0,.int .i64 0,.string ⟨#[]⟩,.slice none 0 0,.slice none 0 0] 25):=⟨_,rfl⟩
 have sa:Wa.heap.size=w.heap.size+1:=by rw [hWa,aF]
 have sb:Wb.heap.size=w.heap.size+2:=by rw [hWb,aF,sa]
 have HS0:=zh (show W0.heap.size=w.heap.size+3 by rw [hW0,aF,sb]);have ba:Below w.heap.size w Wa:=by rw [hWa];exact (Below.refl _ _).alloc (Nat.le_refl _) _
 have bb:Below Wa.heap.size Wa Wb:=by rw [hWb];exact (Below.refl _ _).alloc (Nat.le_refl _) _
 have b0:Below Wb.heap.size Wb W0:=by rw [hW0];exact (Below.refl _ _).alloc (Nat.le_refl _) _
 have HB0:=zh (show Below w.heap.size w W0 from ba.trans ((bb.trans (b0.mono bb.size)).mono ba.size));have HP0:=zh (show W0.heap[w.heap.size]? = some (.cells #[.string q0,.int .i64 q1,.string q2,.bool q3,.string q4] 76 (0,0)) from (b0.block _ (by omega)).trans ((bb.block _ (by omega)).trans (by rw [hWa];exact ag _ _)));have HV0:=zh (show W0.heap[w.heap.size+1]? = some (.cells #[.int .i64 k,.int .i64 n,.string S,.slice A l c,.slice A2 m d] 25 (0,0)) from (b0.block _ (by omega)).trans (by rw [hWb,←sa];exact ag _ _));have HZ0:=zh (show W0.heap[w.heap.size+2]? = some (.cells #[.int .i64 0,.int .i64 0,.string ⟨#[]⟩,.slice none 0 0,.slice none 0 0] 25 (0,0)) by rw [hW0,←sb];exact ag _ _);have HW0:=zh (show W0=((w.alloc (.cells #[.string q0,.int .i64 q1,.string q2,.bool q3,.string q4] 76)).alloc (.cells #[.int .i64 k,.int .i64 n,.string S,.slice A l c,.slice A2 m d] 25)).alloc (.cells #[.int .i64 0,.int .i64 0,.string ⟨#[]⟩,.slice none 0 0,.slice none 0 0] 25) by rw [hW0,hWb,hWa]);have HFN:=zh (show ∀ x∈FL++FM,x<w.heap.size from HLT.out);clear hWa hWb hW0 sa sb ba bb b0;by_cases h12:q1=12
 ·have HRE:=zh (HE12.out h12);rw [HRE.out];have HC12:=zh (fun (u:World) (hu:Below w.heap.size w u)=>HIL.out ar u hu);rw [HAR.out] at HC12;subst h12;clear HE12 HE18 HE13 HE14 HE0;go_enter Tryz.func57,Tryz.ntmps57;have q:=HP0.out;rw [HW0.out] at q;obtain ⟨⟨p0,p1,p2,p3,p4⟩, -⟩:=Sm.aU q;clear q;have q:=HV0.out;rw [HW0.out] at q;obtain ⟨⟨v0,v1,v2,v3,v4⟩, -⟩:=ae q;clear q;have q:=HZ0.out;rw [HW0.out] at q;obtain ⟨⟨z0,z1,z2,z3,z4'⟩,⟨f0,f1,f2,f3,f4⟩⟩:=ae q;clear q;go_wp2_with fail;rw [←HW0.out];refine (HC12.out _ HB0.out).mono ?_;rintro e w1 ⟨ys,G,rfl,hy,hGn,hG,hc⟩;have hz1:=(hc.block (w.heap.size+2) (by rw [HS0.out];omega) (fun hx=>by have:=HFN.out _ hx;omega)).trans HZ0.out;have HZ1:=zh hz1;obtain ⟨yA,yc,yB,yd,_,_,rfl, -⟩:=hy.cells;have HRT:=zh (qd2 (b:=w.heap.size+2) HB0.out (by omega) (by rw [HS0.out];omega) HFN.out hy hGn hG hc);generalize (aw ar v).k=yk at *;generalize (aw ar v).n=yn at *;generalize aa (aw ar v).s=yS at *;generalize (aw ar v).l.length=yl at *;generalize (aw ar v).ms.length=ym at *;clear p0 p1 p2 p3 p4 v0 v1 v2 v3 v4 z0 z1 z2 z3 z4' f0 f1 f2 f3 f4 hy hGn hG hc;obtain ⟨⟨z0,z1,z2,z3,z4'⟩,⟨f0,f1,f2,f3,f4⟩⟩:=ae hz1;clear hz1;go_wp2_with fail;refine bodyPost_ret (qd9 rfl rfl (cr HZ1.out (.int .i64 yk) (.int .i64 yn) (.string yS) (.slice yA yl yc) (.slice yB ym yd))) rfl ?_;exact ⟨_,G,rfl,HRT.out _ _ _ _ _⟩
 by_cases h18:q1=18
 ·have HRE:=zh (HE18.out h18);rw [HRE.out];have HC18:=zh (fun (u:World) (hu:Below w.heap.size w u)=>HIL.out (bK v) u hu);subst h18;clear HE12 HE18 HE13 HE14 HE0;go_enter Tryz.func57,Tryz.ntmps57;have q:=HP0.out;rw [HW0.out] at q;obtain ⟨⟨p0,p1,p2,p3,p4⟩, -⟩:=Sm.aU q;clear q;have q:=HV0.out;rw [HW0.out] at q;obtain ⟨⟨v0,v1,v2,v3,v4⟩, -⟩:=ae q;clear q;have q:=HZ0.out;rw [HW0.out] at q;obtain ⟨⟨z0,z1,z2,z3,z4'⟩,⟨f0,f1,f2,f3,f4⟩⟩:=ae q;clear q;go_upto_region 5 with fail;rw [←HW0.out];clear p0 p1 p2 p3 p4 v0 v1 v2 v3 v4 z0 z1 z2 z3 z4' f0 f1 f2 f3 f4;refine wp_region_held_drew (S:=fun w'=>w'.heap[w.heap.size+1]? = some (.cells #[.int .i64 k,.int .i64 n,.string S,.slice A l c,.slice A2 m d] 25 (0,0))) (by kernel_rfl) (HV0.out) (fun hHeld=>?_);refine zm 0 ⟨some 19,.load 25 (.tmp 3),25,"normal.go:42",#[],none⟩ _ rfl (by kernel_rfl) (fun _ _ _ h=>h) (by rfl) hHeld (fun w hSw=>by obtain ⟨⟨x0,x1,x2,x3,x4⟩, -⟩:=ae hSw;clear hSw;go_simp;with_reducible rfl) ?_
  refine zm 2 ⟨some 21,.load 25 (.tmp 3),25,"normal.go:42",#[],none⟩ _ rfl (by kernel_rfl) (fun _ _ _ h=>h) (by rfl) hHeld (fun w hSw=>by obtain ⟨⟨x0,x1,x2,x3,x4⟩, -⟩:=ae hSw;clear hSw;go_simp;with_reducible rfl) ?_
  refine wpAnyH_ready (rs:=[1]) (by kernel_rfl) (by simp) ?_;refine AllReadyH.cons (o:=⟨some 20,.call ⟨.value (.func 116),#[.tmp 19],#[25]⟩,9,"normal.go:42",#[⟨0,.data⟩],none⟩) rfl (fun K hK=>?_) AllReadyH.nil
  go_simp;refine (HDT.out _ HB0.out.drew).mono ?_;rintro e w1 ⟨rfl,hb1⟩;have HB1:=zh (HB0.out.drew.trans (hb1.mono (show w.heap.size≤W0.heap.size by rw [HS0.out];omega)));have HS1:=zh (show w.heap.size+3≤w1.heap.size by have h:=hb1.size;have h2:=HS0.out;have h3:W0.drew.heap.size=W0.heap.size:=rfl;omega);have hz1:=(hb1.block (w.heap.size+2) (show w.heap.size+2<W0.heap.size by rw [HS0.out];omega)).trans HZ0.out;refine hK.out _ _ ((hb1.block (w.heap.size+1) (show w.heap.size+1<W0.heap.size by rw [HS0.out];omega)).trans hHeld) (fun hHeld=>?_);clear hK K;have HHE:=zh (And.intro hHeld hz1);clear hb1 hz1;refine wpAnyH_ready (rs:=[3]) (by kernel_rfl) (by simp) ?_;refine AllReadyH.cons (o:=⟨some 22,.call ⟨.value (.func 29),#[.tmp 20,.tmp 21],#[9,25]⟩,25,"normal.go:42",#[⟨1,.data⟩,⟨2,.data⟩,⟨1,.chain⟩],none⟩) rfl (fun K hK=>?_) AllReadyH.nil
  go_simp;refine (HC18.out _ HB1.out).mono ?_;rintro e w2 ⟨ys,G,rfl,hy,hGn,hG,hc⟩;obtain ⟨yA,yc,yB,yd,_,_,rfl, -⟩:=hy.cells;have HRT:=zh (qd2 (b:=w.heap.size+2) HB1.out (by omega) (by have:=HS1.out;omega) HFN.out hy hGn hG hc);have hz2:=(hc.block (w.heap.size+2) (by have:=HS1.out;omega) (fun hx=>by have:=HFN.out _ hx;omega)).trans HHE.out.2;have hv2:=(hc.block (w.heap.size+1) (by have:=HS1.out;omega) (fun hx=>by have:=HFN.out _ hx;omega)).trans HHE.out.1;have HZ2:=zh hz2;have HV2:=zh hv2;generalize (aw (bK v) v).k=yk at *;generalize (aw (bK v) v).n=yn at *;generalize aa (aw (bK v) v).s=yS at *;generalize (aw (bK v) v).l.length=yl at *;generalize (aw (bK v) v).ms.length=ym at *;clear hy hGn hG hc;refine hK.out _ _ (hv2) (fun hHeld=>?_);clear hK K;obtain ⟨⟨z0,z1,z2,z3,z4'⟩,⟨f0,f1,f2,f3,f4⟩⟩:=ae hz2;clear hz2 hv2;refine wpAnyH_ready (rs:=[4]) (by kernel_rfl) (by simp) ?_;refine AllReadyH.cons (o:=⟨none,.store 25 (.tmp 4) (.tmp 22),0,"normal.go:42",#[⟨3,.data⟩,⟨3,.chain⟩,⟨0,.phase⟩,⟨1,.phase⟩,⟨2,.phase⟩,⟨3,.phase⟩],none⟩) rfl (fun K hK=>?_) AllReadyH.nil
  go_simp;refine hK.out _ _ ((ci (show w.heap.size+1≠w.heap.size+2 by omega) _ _ _ _ _).trans HV2.out) (fun hHeld=>?_);clear hK K;refine wpAnyH_done (by kernel_rfl) ?_ _;go_wp2_with fail;refine bodyPost_ret (qd9 rfl rfl (cr HZ2.out (.int .i64 yk) (.int .i64 yn) (.string yS) (.slice yA yl yc) (.slice yB ym yd))) rfl ?_;exact ⟨_,G,rfl,HRT.out _ _ _ _ _⟩
 by_cases h13:q1=13
 ·have HRE:=zh (HE13.out h13);rw [HRE.out];subst h13;clear HE12 HE18 HE13 HE14 HE0 HDT HIL;have hst:∃ Gs0:List (List Nat),qaD 5 0 W0.heap.size A FL v.l Gs0 (aw ar) 0 W0∧(∀ x∈Gs0.flatten,x∈FL):=by
   rcases HFL.out with ⟨h0,rfl⟩ | ⟨g,T,h0,eA,rfl,hr⟩
   ·exact ⟨[],.inl h0,fun x hx=>by cases hx⟩
   ·have hkp:∀ x∈g::T,W0.heap[x]? = w.heap[x]?:=fun x hx=>HB0.out.block x (HFN.out x (List.mem_append_left _ hx));have hlt:∀ x∈g::T,x<W0.heap.size:=fun x hx=>by have:=HFN.out x (List.mem_append_left _ hx);have:=HS0.out;omega
    obtain ⟨Gs,eG,hq⟩:=Lq.start5 (N:=W0.heap.size) (F:=g::T) (f:=aw ar) (bz.keep v.l g 0 T (hkp g (by simp)) (fun x hx=>hkp x (by simp [hx])) hr) HNP.out.1 hlt (fun x hx=>hx);exact ⟨Gs,.inr ⟨g,_,Gs,h0,eA,by simp,hq⟩,fun x hx=>by rw [eG] at hx;simp [hx]⟩
  obtain ⟨Gs0,hst,hgs⟩:=hst;have HST:=zh hst;have HGS:=zh hgs;clear hst hgs;go_enter Tryz.func57,Tryz.ntmps57;have q:=HP0.out;rw [HW0.out] at q;obtain ⟨⟨p0,p1,p2,p3,p4⟩, -⟩:=Sm.aU q;clear q;have q:=HV0.out;rw [HW0.out] at q;obtain ⟨⟨v0,v1,v2,v3,v4⟩, -⟩:=ae q;clear q;have q:=HZ0.out;rw [HW0.out] at q;obtain ⟨⟨z0,z1,z2,z3,z4'⟩,⟨f0,f1,f2,f3,f4⟩⟩:=ae q;clear q;go_wp2_with fail;rw [←HW0.out];clear p0 p1 p2 p3 p4 v0 v1 v2 v3 v4 z0 z1 z2 z3 z4' f0 f1 f2 f3 f4;go_loopw [28] (fun si wr=>∃ j:Nat,si = .int .i64 (j:Int)∧j≤l∧Aside (qaD 5 0 W0.heap.size A FL v.l Gs0 (aw ar) j wr)∧Aside (aA FL W0 wr)) (fun si _=>l-(intOf si).toNat)
  case atStart=>exact ⟨0,rfl,by omega,HST.out,(show aA _ _ _ from aA.refl _ _)⟩
  case round=>
   obtain ⟨j,rfl,hjn,hLq,hC⟩:=hrel;have HC:=zh hC.out;have HLQ:=zh hLq.out;have hws:W0.heap.size≤wr.heap.size:=hC.out.size;have hw3:w.heap.size+3≤wr.heap.size:=by have:=HS0.out;omega
   have hout:∀ b,w.heap.size≤b→b<w.heap.size+3→wr.heap[b]? = W0.heap[b]?:=fun b h1 h2=>HC.out.block b (by have:=HS0.out;omega) (fun hx=>by have:=HFN.out b (List.mem_append_left _ hx);omega);have HP1:=zh ((hout w.heap.size (by omega) (by omega)).trans HP0.out);have HV1:=zh ((hout (w.heap.size+1) (by omega) (by omega)).trans HV0.out);have HZ1:=zh ((hout (w.heap.size+2) (by omega) (by omega)).trans HZ0.out);clear hLq hC hout;by_cases hlt:j<l
   ·have t1:decide ((j:Int)<(l:Int))=true:=zT (by omega);have t2:decide (j<l)=true:=zT hlt;have k0:(0:Int)≤(j:Int):=by omega
    have k1:(j:Int)<(l:Int):=by omega
    have k2:((j:Int)).toNat=j:=by omega
    have hjl:j<v.l.length:=by rw [HLEN.out];exact hlt
    rcases HLQ.out with h | ⟨g,lc,Gs,h0,e,hgF,hq⟩
    ·omega
    ·subst e;have hjc:j<lc.length:=by rw [hq.ll];exact hjl
     have hjg:j<Gs.length:=by rw [hq.it.len];exact hjc
     have hj0:j<Gs0.length:=by rw [hq.gl];exact hjl
     have hgl:g<w.heap.size:=HFN.out g (List.mem_append_left _ hgF);have hGj:∀ x∈Gs[j],x∈FL:=fun x hx=>HGS.out x (by rw [hq.gold j hjg hj0 (Nat.le_refl _)] at hx;exact aq hj0 hx);have hGl:∀ x∈Gs[j],x<w.heap.size:=fun x hx=>HFN.out x (List.mem_append_left _ (hGj x hx));obtain ⟨xcs,hxc,hxv⟩:=hq.it.at_ j hjc hjg;rw [hq.old j hjc hjl (Nat.le_refl _)] at hxv;have hmem:v.l[j]∈v.l:=List.getElem_mem hjl;obtain ⟨x,hx⟩:∃ x,v.l[j]=x:=⟨_,rfl⟩
     rw [hx] at hxv hmem;have HX:=zh hx;obtain ⟨xA,xc,xB,xd,_,_,rfl, -⟩:=hxv.cells;have hnj:=hq.it.nod;rw [List.nodup_cons] at hnj;have HCP0:=zh (fun (W:World) (hW:Below wr.heap.size wr W)=>HLL.out ar x _ Gs[j] W (Nat.lt_trans (qq4 hmem) HHT.out) (RdF.keep _ _ _ (fun b hb=>hW.block b (hq.it.lt b (List.mem_cons_of_mem _ (aq hjg hb)))) hxv) (cG Gs hnj.2 j hjg) (fun b hb=>Nat.lt_of_lt_of_le (hq.it.lt b (List.mem_cons_of_mem _ (aq hjg hb))) hW.size) (aV HZ7.out hmem));rw [HAR.out] at HCP0;have a0:=(hxc 0 _ rfl).1;have a1:=(hxc 1 _ rfl).1;have a2:=(hxc 2 _ rfl).1;have a3:=(hxc 3 _ rfl).1;have a4:=(hxc 4 _ rfl).1;simp only [Nat.add_zero] at a0 a1 a2 a3 a4;obtain ⟨u,hu⟩:∃ u,aw ar x=u:=⟨_,rfl⟩
     have HU:=zh hu;rw [hu] at HCP0;generalize x.k=xk at *;generalize x.n=xn at *;generalize aa x.s=xS at *;generalize x.l.length=xl at *;generalize x.ms.length=xm at *;obtain ⟨W,hW⟩:∃ W,W=wr.alloc (.cells #[.int .i64 xk,.int .i64 xn,.string xS,.slice xA xl xc,.slice xB xm xd] 25):=⟨_,rfl⟩
     have hWs:W.heap.size=wr.heap.size+1:=by rw [hW,aF]
     have hWb:Below wr.heap.size wr W:=by rw [hW];exact (Below.refl _ _).alloc (Nat.le_refl _) _
     have hWbox:W.heap[wr.heap.size]? = some (.cells #[.int .i64 xk,.int .i64 xn,.string xS,.slice xA xl xc,.slice xB xm xd] 25 (0,0)):=by rw [hW];exact ag wr _
     have HSt:=zh (And.intro ((hWb.block w.heap.size (by omega)).trans HP1.out) (And.intro ((hWb.block (w.heap.size+1) (by omega)).trans HV1.out) hWbox));have HCP:=zh (HCP0.out W.drew hWb.drew);have HLW:=zh (hq.keep hWb.drew);have HWB:=zh hWb;have HWS:=zh hWs;have HGF:=zh hgF;have HGJ:=zh hGj;have HGL:=zh hGl;have HW:=zh hW;have HQ:=zh hq;clear hx hu hxv hxc hmem hnj HCP0 hW hWs hWb hWbox hgF hGj hGl hq;go_wp2_with fail;rw [←HW.out];clear a0 a1 a2 a3 a4;refine wp_region_held_drew (S:=fun w'=>w'.heap[w.heap.size]? = some (.cells #[.string q0,.int .i64 13,.string q2,.bool q3,.string q4] 76 (0,0))∧w'.heap[w.heap.size+1]? = some (.cells #[.int .i64 k,.int .i64 n,.string S,.slice (some ⟨g,0,none⟩) l c,.slice A2 m d] 25 (0,0))∧w'.heap[wr.heap.size]? = some (.cells #[.int .i64 xk,.int .i64 xn,.string xS,.slice xA xl xc,.slice xB xm xd] 25 (0,0))) (by kernel_rfl) (HSt.out) (fun hHeld=>?_);refine zm 0 ⟨some 33,.fieldAddr 25 (.tmp 3) 3,0,"normal.go:45",#[],none⟩ _ rfl (by kernel_rfl) (fun _ _ _ h=>h) (by rfl) hHeld (fun w hSw=>by go_simp;with_reducible rfl) ?_
     refine zm 1 ⟨some 34,.load 22 (.tmp 33),22,"normal.go:45",#[⟨0,.data⟩],none⟩ _ rfl (by kernel_rfl) (fun _ _ _ h=>h) (by rfl) hHeld (fun w hSw=>by obtain ⟨⟨a0,a1,a2,a3,a4⟩, -⟩:=Sm.aU hSw.1;obtain ⟨⟨b0,b1,b2,b3,b4⟩, -⟩:=ae hSw.2.1;obtain ⟨⟨c0,c1,c2,c3,c4⟩, -⟩:=ae hSw.2.2;clear hSw;go_simp;with_reducible rfl) ?_
     refine zm 2 ⟨some 35,.move (.tmp 5),3,"normal.go:45",#[],none⟩ _ rfl (by kernel_rfl) (fun _ _ _ h=>h) (by rfl) hHeld (fun w hSw=>by go_simp;with_reducible rfl) ?_
     refine zm 3 ⟨some 36,.fieldAddr 76 (.tmp 2) 2,0,"normal.go:45",#[],none⟩ _ rfl (by kernel_rfl) (fun _ _ _ h=>h) (by rfl) hHeld (fun w hSw=>by go_simp;with_reducible rfl) ?_
     refine zm 4 ⟨some 37,.load 9 (.tmp 36),9,"normal.go:45",#[⟨3,.data⟩],none⟩ _ rfl (by kernel_rfl) (fun _ _ _ h=>h) (by rfl) hHeld (fun w hSw=>by obtain ⟨⟨a0,a1,a2,a3,a4⟩, -⟩:=Sm.aU hSw.1;obtain ⟨⟨b0,b1,b2,b3,b4⟩, -⟩:=ae hSw.2.1;obtain ⟨⟨c0,c1,c2,c3,c4⟩, -⟩:=ae hSw.2.2;clear hSw;go_simp;with_reducible rfl) ?_
     refine zm 5 ⟨some 38,.load 25 (.tmp 6),25,"normal.go:45",#[],none⟩ _ rfl (by kernel_rfl) (fun _ _ _ h=>h) (by rfl) hHeld (fun w hSw=>by obtain ⟨⟨a0,a1,a2,a3,a4⟩, -⟩:=Sm.aU hSw.1;obtain ⟨⟨b0,b1,b2,b3,b4⟩, -⟩:=ae hSw.2.1;obtain ⟨⟨c0,c1,c2,c3,c4⟩, -⟩:=ae hSw.2.2;clear hSw;go_simp;with_reducible rfl) ?_
     refine wpAnyH_ready (rs:=[6]) (by kernel_rfl) (by simp) ?_;refine AllReadyH.cons (o:=⟨some 39,.call ⟨.value (.func 29),#[.tmp 37,.tmp 38],#[9,25]⟩,25,"normal.go:45",#[⟨4,.data⟩,⟨5,.data⟩],none⟩) rfl (fun K hK=>?_) AllReadyH.nil
     go_simp;refine HCP.out.mono ?_;rintro e w5 ⟨ys,G,rfl,hy,hGn,hG,hc⟩;obtain ⟨yA,yc,yB,yd,_,_,rfl, -⟩:=hy.cells;have HY:=zh hy;have HGN:=zh hGn;have HGG:=zh hG;have HCC:=zh hc;have hnj:=HLW.out.it.nod;rw [List.nodup_cons] at hnj;have hg5:w5.heap[g]? = W.drew.heap[g]?:=hc.block g (HLW.out.it.lt g (by simp)) (fun hx=>hnj.1 (aq hjg hx));obtain ⟨ocs,hoc,hov⟩:=HLW.out.it.at_ j hjc hjg;have hoc:=hoc.keep hg5;have ol:ocs.length=5:=by obtain ⟨_,_,_,_,_,_,eo, -⟩:=hov.cells;rw [eo];rfl
     have fz:=fun t (ht:t<5)=>(hoc t ocs[t] (List.getElem?_eq_getElem (by omega))).2;have fe:=fun t (ht:t<5)=>(hoc t ocs[t] (List.getElem?_eq_getElem (by omega))).1;have z0:=fz 0 (by omega);have z1:=fz 1 (by omega);have z2:=fz 2 (by omega);have z3:=fz 3 (by omega);have z4:=fz 4 (by omega);have e0:=fe 0 (by omega);have e1:=fe 1 (by omega);have e2:=fe 2 (by omega);have e3:=fe 3 (by omega);have e4:=fe 4 (by omega);generalize ocs[0]=oc0 at *;generalize ocs[1]=oc1 at *;generalize ocs[2]=oc2 at *;generalize ocs[3]=oc3 at *;generalize ocs[4]=oc4 at *;simp only [Nat.add_zero] at z0 z1 z2 z3 z4 e0 e1 e2 e3 e4;generalize u.k=yk at *;generalize u.n=yn at *;generalize aa u.s=yS at *;generalize u.l.length=yl at *;generalize u.ms.length=ym at *;have hfar:∀ b,w.heap.size≤b→b≤wr.heap.size→w5.heap[b]? = W.heap[b]?:=fun b h1 h2=>HCC.out.block b (show b<W.heap.size by have:=HWS.out;omega) (fun hx=>by have:=HGL.out b hx;omega);have HFAR:=zh hfar;clear hy hGn hG hc hnj hg5 hoc hov ol fz fe hfar;refine hK.out _ _ (⟨(HFAR.out _ (by omega) (by omega)).trans HSt.out.1,(HFAR.out _ (by omega) (by omega)).trans HSt.out.2.1,(HFAR.out _ (by omega) (by omega)).trans HSt.out.2.2⟩) (fun hHeld=>?_);clear hK K;refine zm 7 ⟨some 40,.indexAddr 22 (.tmp 34) (.tmp 35),0,"normal.go:45",#[⟨1,.data⟩,⟨2,.data⟩,⟨0,.phase⟩,⟨1,.phase⟩,⟨2,.phase⟩,⟨3,.phase⟩,⟨4,.phase⟩,⟨5,.phase⟩,⟨6,.phase⟩],none⟩ _ rfl (by kernel_rfl) (fun _ _ _ h=>h) (by rfl) hHeld (fun w hSw=>by go_simp;with_reducible rfl) ?_
     refine wpAnyH_ready (rs:=[8]) (by kernel_rfl) (by simp) ?_;refine AllReadyH.cons (o:=⟨none,.store 25 (.tmp 40) (.tmp 39),0,"normal.go:45",#[⟨7,.data⟩,⟨6,.data⟩,⟨6,.chain⟩,⟨0,.phase⟩,⟨1,.phase⟩,⟨2,.phase⟩,⟨3,.phase⟩,⟨4,.phase⟩,⟨5,.phase⟩,⟨6,.phase⟩],none⟩) rfl (fun K hK=>?_) AllReadyH.nil
     go_simp;refine hK.out _ _ (⟨(aG (show w.heap.size≠g by omega)).trans hHeld.1,(aG (show w.heap.size+1≠g by omega)).trans hHeld.2.1,(aG (show wr.heap.size≠g by omega)).trans hHeld.2.2⟩) (fun hHeld=>?_);clear hK K;refine wpAnyH_done (by kernel_rfl) ?_ _;have HLQ6:=zh (Lq.step HLW.out (by omega) hjc hjg hjl (show W0.heap.size≤W.heap.size by have:=HWS.out;omega) HCC.out (by rw [HX.out,HU.out];exact HY.out) HGN.out HGG.out);have HC6:=zh (aA.st5o (g:=g) (o:=j*5+0) (v0:= .int .i64 yk) (v1:= .int .i64 yn) (v2:= .string yS) (v3:= .slice yA yl yc) (v4:= .slice yB ym yd) (HC.out.trans ((aA.of HWB.out.drew).trans (HCC.out.more HGJ.out))) (.inl HGF.out));clear hHeld z0 z1 z2 z3 z4 e0 e1 e2 e3 e4;go_wp2_with fail;go_roundw
     case rel=>exact ⟨j+1,by go_num,by omega,(show qaD _ _ _ _ _ _ _ _ _ _ from .inr ⟨g,_,_,h0,rfl,HGF.out,HLQ6.out⟩),HC6.out⟩
     case measure=>simp [intOf];omega
   ·have t1:decide ((j:Int)<(l:Int))=false:=zF (by omega);have t2:decide (j<l)=false:=zF hlt;obtain rfl:l=j:=by omega
    obtain ⟨G,hy,hGn,hG,hc⟩:=qqG HV.out HFM.out HECS.out HNL.out HND.out HLT.out HB0.out (by rw [HLEN.out];exact HLQ.out) HC.out;have HRT:=zh (qd2 (b:=w.heap.size+2) HB0.out (by omega) (by rw [HS0.out];omega) HFN.out hy hGn hG hc);clear hy hGn hG hc;rw [HEC.out] at HRT;obtain ⟨⟨v0,v1,v2,v3,v4⟩, -⟩:=ae HV1.out;obtain ⟨⟨z0,z1,z2,z3,z4'⟩,⟨f0,f1,f2,f3,f4⟩⟩:=ae HZ1.out;go_wp2_with fail;refine bodyPost_ret (qd9 rfl rfl (cr HZ1.out (.int .i64 k) (.int .i64 n) (.string S) (.slice A l c) (.slice A2 m d))) rfl ?_;exact ⟨_,G,rfl,HRT.out _ _ _ _ _⟩
 by_cases h14:q1=14
 ·have HRE:=zh (HE14.out (by omega));rw [HRE.out];subst h14;clear HE12 HE18 HE13 HE14 HE0 HDT HIL;have hst:∃ Gs0:List (List Nat),qaD 6 1 W0.heap.size A2 FM v.ms Gs0 (aw ar) 0 W0∧(∀ x∈Gs0.flatten,x∈FM)∧∀ g,A2=some ⟨g,0,none⟩→0<m→cW g v.ns W0:=by
   rcases HFM.out with ⟨h0,rfl⟩ | ⟨g,T,h0,eA,rfl,hr⟩
   ·exact ⟨[],.inl h0,(fun x hx=>by cases hx),fun g _ h=>by have:=HMEN.out;omega⟩
   ·have hkp:∀ x∈g::T,W0.heap[x]? = w.heap[x]?:=fun x hx=>HB0.out.block x (HFN.out x (List.mem_append_right _ hx));have hlt:∀ x∈g::T,x<W0.heap.size:=fun x hx=>by have:=HFN.out x (List.mem_append_right _ hx);have:=HS0.out;omega
    obtain ⟨Gs,eG,hq,hN⟩:=Lq.start6 (N:=W0.heap.size) (F:=g::T) (f:=aw ar) (bf.keep v.ms g 0 v.ns T (hkp g (by simp)) (fun x hx=>hkp x (by simp [hx])) hr) HNL.out HNP.out.2.1 hlt (fun x hx=>hx);exact ⟨Gs,.inr ⟨g,_,Gs,h0,eA,by simp,hq⟩,(fun x hx=>by rw [eG] at hx;simp [hx]),fun g' e _=>by rw [eA] at e;injection e with e;injection e with e;subst e;exact hN⟩
  obtain ⟨Gs0,hst,hgs,hnm0'⟩:=hst;have HST:=zh hst;have HGS:=zh hgs;have HNM0:=zh hnm0';clear hst hgs hnm0';go_enter Tryz.func57,Tryz.ntmps57;have q:=HP0.out;rw [HW0.out] at q;obtain ⟨⟨p0,p1,p2,p3,p4⟩, -⟩:=Sm.aU q;clear q;have q:=HV0.out;rw [HW0.out] at q;obtain ⟨⟨v0,v1,v2,v3,v4⟩, -⟩:=ae q;clear q;have q:=HZ0.out;rw [HW0.out] at q;obtain ⟨⟨z0,z1,z2,z3,z4'⟩,⟨f0,f1,f2,f3,f4⟩⟩:=ae q;clear q;go_wp2_with fail;rw [←HW0.out];clear p0 p1 p2 p3 p4 v0 v1 v2 v3 v4 z0 z1 z2 z3 z4' f0 f1 f2 f3 f4;go_loopw [48] (fun si wr=>∃ j:Nat,si = .int .i64 (j:Int)∧j≤m∧Aside (qaD 6 1 W0.heap.size A2 FM v.ms Gs0 (aw ar) j wr)∧Aside (aA FM W0 wr)∧Aside (∀ g,A2=some ⟨g,0,none⟩→0<m→cW g v.ns wr)) (fun si _=>m-(intOf si).toNat)
  case atStart=>exact ⟨0,rfl,by omega,HST.out,(show aA _ _ _ from aA.refl _ _),HNM0.out⟩
  case round=>
   obtain ⟨j,rfl,hjn,hLq,hC,hNm'⟩:=hrel;have HC:=zh hC.out;have HLQ:=zh hLq.out;have HNM:=zh hNm'.out;have hws:W0.heap.size≤wr.heap.size:=hC.out.size;have hw3:w.heap.size+3≤wr.heap.size:=by have:=HS0.out;omega
   have hout:∀ b,w.heap.size≤b→b<w.heap.size+3→wr.heap[b]? = W0.heap[b]?:=fun b h1 h2=>HC.out.block b (by have:=HS0.out;omega) (fun hx=>by have:=HFN.out b (List.mem_append_right _ hx);omega);have HP1:=zh ((hout w.heap.size (by omega) (by omega)).trans HP0.out);have HV1:=zh ((hout (w.heap.size+1) (by omega) (by omega)).trans HV0.out);have HZ1:=zh ((hout (w.heap.size+2) (by omega) (by omega)).trans HZ0.out);clear hLq hC hout hNm';by_cases hlt:j<m
   ·have t1:decide ((j:Int)<(m:Int))=true:=zT (by omega);have t2:decide (j<m)=true:=zT hlt;have k0:(0:Int)≤(j:Int):=by omega
    have k1:(j:Int)<(m:Int):=by omega
    have k2:((j:Int)).toNat=j:=by omega
    have hjl:j<v.ms.length:=by rw [HMEN.out];exact hlt
    rcases HLQ.out with h | ⟨g,lc,Gs,h0,e,hgF,hq⟩
    ·omega
    ·subst e;have hjc:j<lc.length:=by rw [hq.ll];exact hjl
     have hjg:j<Gs.length:=by rw [hq.it.len];exact hjc
     have hj0:j<Gs0.length:=by rw [hq.gl];exact hjl
     have hgl:g<w.heap.size:=HFN.out g (List.mem_append_right _ hgF);have hGj:∀ x∈Gs[j],x∈FM:=fun x hx=>HGS.out x (by rw [hq.gold j hjg hj0 (Nat.le_refl _)] at hx;exact aq hj0 hx);have hGl:∀ x∈Gs[j],x<w.heap.size:=fun x hx=>HFN.out x (List.mem_append_right _ (hGj x hx));obtain ⟨xcs,hxc,hxv⟩:=hq.it.at_ j hjc hjg;rw [hq.old j hjc hjl (Nat.le_refl _)] at hxv;have hmem:v.ms[j]∈v.ms:=List.getElem_mem hjl;have hjns:j<v.ns.length:=by rw [HNL.out];exact hjl
     have an:=((HNM.out g rfl (by omega) j hjns) 0 _ rfl).1;generalize aa v.ns[j]=X at an;obtain ⟨x,hx⟩:∃ x,v.ms[j]=x:=⟨_,rfl⟩
     rw [hx] at hxv hmem;have HX:=zh hx;obtain ⟨xA,xc,xB,xd,_,_,rfl, -⟩:=hxv.cells;have hnj:=hq.it.nod;rw [List.nodup_cons] at hnj;have HCP0:=zh (fun (W:World) (hW:Below wr.heap.size wr W)=>HLL.out ar x _ Gs[j] W (Nat.lt_trans (qdm hmem) HHT.out) (RdF.keep _ _ _ (fun b hb=>hW.block b (hq.it.lt b (List.mem_cons_of_mem _ (aq hjg hb)))) hxv) (cG Gs hnj.2 j hjg) (fun b hb=>Nat.lt_of_lt_of_le (hq.it.lt b (List.mem_cons_of_mem _ (aq hjg hb))) hW.size) (aV HZ8.out hmem));rw [HAR.out] at HCP0;have a0:=(hxc 0 _ rfl).1;have a1:=(hxc 1 _ rfl).1;have a2:=(hxc 2 _ rfl).1;have a3:=(hxc 3 _ rfl).1;have a4:=(hxc 4 _ rfl).1;simp only [Nat.add_zero,Nat.add_assoc,Nat.reduceAdd] at a0 a1 a2 a3 a4 an;obtain ⟨u,hu⟩:∃ u,aw ar x=u:=⟨_,rfl⟩
     have HU:=zh hu;rw [hu] at HCP0;generalize x.k=xk at *;generalize x.n=xn at *;generalize aa x.s=xS at *;generalize x.l.length=xl at *;generalize x.ms.length=xm at *;obtain ⟨W,hW⟩:∃ W,W=wr.alloc (.cells #[.string X,.int .i64 xk,.int .i64 xn,.string xS,.slice xA xl xc,.slice xB xm xd] 44):=⟨_,rfl⟩
     have hWs:W.heap.size=wr.heap.size+1:=by rw [hW,aF]
     have hWb:Below wr.heap.size wr W:=by rw [hW];exact (Below.refl _ _).alloc (Nat.le_refl _) _
     have hWbox:W.heap[wr.heap.size]? = some (.cells #[.string X,.int .i64 xk,.int .i64 xn,.string xS,.slice xA xl xc,.slice xB xm xd] 44 (0,0)):=by rw [hW];exact ag wr _
     have HSt:=zh (And.intro ((hWb.block w.heap.size (by omega)).trans HP1.out) (And.intro ((hWb.block (w.heap.size+1) (by omega)).trans HV1.out) hWbox));have HCP:=zh (HCP0.out W.drew hWb.drew);have HLW:=zh (hq.keep hWb.drew);have HWB:=zh hWb;have HWS:=zh hWs;have HGF:=zh hgF;have HGJ:=zh hGj;have HGL:=zh hGl;have HW:=zh hW;have HQ:=zh hq;clear hx hu hxv hxc hmem hnj HCP0 hW hWs hWb hWbox hgF hGj hGl hq;go_wp2_with fail;rw [←HW.out];clear a0 a1 a2 a3 a4 an;refine wp_region_held_drew (S:=fun w'=>w'.heap[w.heap.size]? = some (.cells #[.string q0,.int .i64 14,.string q2,.bool q3,.string q4] 76 (0,0))∧w'.heap[w.heap.size+1]? = some (.cells #[.int .i64 k,.int .i64 n,.string S,.slice A l c,.slice (some ⟨g,0,none⟩) m d] 25 (0,0))∧w'.heap[wr.heap.size]? = some (.cells #[.string X,.int .i64 xk,.int .i64 xn,.string xS,.slice xA xl xc,.slice xB xm xd] 44 (0,0))) (by kernel_rfl) (HSt.out) (fun hHeld=>?_);refine zm 0 ⟨some 53,.fieldAddr 25 (.tmp 3) 4,0,"normal.go:49",#[],none⟩ _ rfl (by kernel_rfl) (fun _ _ _ h=>h) (by rfl) hHeld (fun w hSw=>by go_simp;with_reducible rfl) ?_
     refine zm 1 ⟨some 54,.load 23 (.tmp 53),23,"normal.go:49",#[⟨0,.data⟩],none⟩ _ rfl (by kernel_rfl) (fun _ _ _ h=>h) (by rfl) hHeld (fun w hSw=>by obtain ⟨⟨a0,a1,a2,a3,a4⟩, -⟩:=Sm.aU hSw.1;obtain ⟨⟨b0,b1,b2,b3,b4⟩, -⟩:=ae hSw.2.1;obtain ⟨c0,c1,c2,c3,c4,c5⟩:=cH hSw.2.2;clear hSw;go_simp;with_reducible rfl) ?_
     refine zm 2 ⟨some 55,.move (.tmp 7),3,"normal.go:49",#[],none⟩ _ rfl (by kernel_rfl) (fun _ _ _ h=>h) (by rfl) hHeld (fun w hSw=>by go_simp;with_reducible rfl) ?_
     refine zm 3 ⟨some 56,.fieldAddr 76 (.tmp 2) 2,0,"normal.go:49",#[],none⟩ _ rfl (by kernel_rfl) (fun _ _ _ h=>h) (by rfl) hHeld (fun w hSw=>by go_simp;with_reducible rfl) ?_
     refine zm 4 ⟨some 57,.load 9 (.tmp 56),9,"normal.go:49",#[⟨3,.data⟩],none⟩ _ rfl (by kernel_rfl) (fun _ _ _ h=>h) (by rfl) hHeld (fun w hSw=>by obtain ⟨⟨a0,a1,a2,a3,a4⟩, -⟩:=Sm.aU hSw.1;obtain ⟨⟨b0,b1,b2,b3,b4⟩, -⟩:=ae hSw.2.1;obtain ⟨c0,c1,c2,c3,c4,c5⟩:=cH hSw.2.2;clear hSw;go_simp;with_reducible rfl) ?_
     refine zm 5 ⟨some 58,.fieldAddr 44 (.tmp 8) 1,0,"normal.go:49",#[],none⟩ _ rfl (by kernel_rfl) (fun _ _ _ h=>h) (by rfl) hHeld (fun w hSw=>by go_simp;with_reducible rfl) ?_
     refine zm 6 ⟨some 59,.load 25 (.tmp 58),25,"normal.go:49",#[⟨5,.data⟩],none⟩ _ rfl (by kernel_rfl) (fun _ _ _ h=>h) (by rfl) hHeld (fun w hSw=>by obtain ⟨⟨a0,a1,a2,a3,a4⟩, -⟩:=Sm.aU hSw.1;obtain ⟨⟨b0,b1,b2,b3,b4⟩, -⟩:=ae hSw.2.1;obtain ⟨c0,c1,c2,c3,c4,c5⟩:=cH hSw.2.2;clear hSw;go_simp;with_reducible rfl) ?_
     refine wpAnyH_ready (rs:=[7]) (by kernel_rfl) (by simp) ?_;refine AllReadyH.cons (o:=⟨some 60,.call ⟨.value (.func 29),#[.tmp 57,.tmp 59],#[9,25]⟩,25,"normal.go:49",#[⟨4,.data⟩,⟨6,.data⟩],none⟩) rfl (fun K hK=>?_) AllReadyH.nil
     go_simp;refine HCP.out.mono ?_;rintro e w5 ⟨ys,G,rfl,hy,hGn,hG,hc⟩;obtain ⟨yA,yc,yB,yd,_,_,rfl, -⟩:=hy.cells;have HY:=zh hy;have HGN:=zh hGn;have HGG:=zh hG;have HCC:=zh hc;have hnj:=HLW.out.it.nod;rw [List.nodup_cons] at hnj;have hg5:w5.heap[g]? = W.drew.heap[g]?:=hc.block g (HLW.out.it.lt g (by simp)) (fun hx=>hnj.1 (aq hjg hx));obtain ⟨ocs,hoc,hov⟩:=HLW.out.it.at_ j hjc hjg;have hoc:=hoc.keep hg5;have ol:ocs.length=5:=by obtain ⟨_,_,_,_,_,_,eo, -⟩:=hov.cells;rw [eo];rfl
     have fz:=fun t (ht:t<5)=>(hoc t ocs[t] (List.getElem?_eq_getElem (by omega))).2;have fe:=fun t (ht:t<5)=>(hoc t ocs[t] (List.getElem?_eq_getElem (by omega))).1;have z0:=fz 0 (by omega);have z1:=fz 1 (by omega);have z2:=fz 2 (by omega);have z3:=fz 3 (by omega);have z4:=fz 4 (by omega);have e0:=fe 0 (by omega);have e1:=fe 1 (by omega);have e2:=fe 2 (by omega);have e3:=fe 3 (by omega);have e4:=fe 4 (by omega);generalize ocs[0]=oc0 at *;generalize ocs[1]=oc1 at *;generalize ocs[2]=oc2 at *;generalize ocs[3]=oc3 at *;generalize ocs[4]=oc4 at *;rw [Nat.add_zero] at z0 e0;generalize u.k=yk at *;generalize u.n=yn at *;generalize aa u.s=yS at *;generalize u.l.length=yl at *;generalize u.ms.length=ym at *;have hfar:∀ b,w.heap.size≤b→b≤wr.heap.size→w5.heap[b]? = W.heap[b]?:=fun b h1 h2=>HCC.out.block b (show b<W.heap.size by have:=HWS.out;omega) (fun hx=>by have:=HGL.out b hx;omega);have HFAR:=zh hfar;have HFAR0:=zh (show w5.heap[g]? = W.heap[g]? from hg5);clear hy hGn hG hc hnj hg5 hoc hov ol fz fe hfar;refine hK.out _ _ (⟨(HFAR.out _ (by omega) (by omega)).trans HSt.out.1,(HFAR.out _ (by omega) (by omega)).trans HSt.out.2.1,(HFAR.out _ (by omega) (by omega)).trans HSt.out.2.2⟩) (fun hHeld=>?_);clear hK K;refine zm 8 ⟨some 61,.indexAddr 23 (.tmp 54) (.tmp 55),0,"normal.go:49",#[⟨1,.data⟩,⟨2,.data⟩,⟨0,.phase⟩,⟨1,.phase⟩,⟨2,.phase⟩,⟨3,.phase⟩,⟨4,.phase⟩,⟨5,.phase⟩,⟨6,.phase⟩,⟨7,.phase⟩],none⟩ _ rfl (by kernel_rfl) (fun _ _ _ h=>h) (by rfl) hHeld (fun w hSw=>by go_simp;with_reducible rfl) ?_
     refine zm 9 ⟨some 62,.fieldAddr 44 (.tmp 61) 1,0,"normal.go:49",#[⟨8,.data⟩,⟨0,.phase⟩,⟨1,.phase⟩,⟨2,.phase⟩,⟨3,.phase⟩,⟨4,.phase⟩,⟨5,.phase⟩,⟨6,.phase⟩,⟨7,.phase⟩],none⟩ _ rfl (by kernel_rfl) (fun _ _ _ h=>h) (by rfl) hHeld (fun w hSw=>by go_simp;with_reducible rfl) ?_
     refine wpAnyH_ready (rs:=[10]) (by kernel_rfl) (by simp) ?_;refine AllReadyH.cons (o:=⟨none,.store 25 (.tmp 62) (.tmp 60),0,"normal.go:49",#[⟨9,.data⟩,⟨7,.data⟩,⟨7,.chain⟩,⟨0,.phase⟩,⟨1,.phase⟩,⟨2,.phase⟩,⟨3,.phase⟩,⟨4,.phase⟩,⟨5,.phase⟩,⟨6,.phase⟩,⟨7,.phase⟩],none⟩) rfl (fun K hK=>?_) AllReadyH.nil
     go_simp;refine hK.out _ _ (⟨(aG (show w.heap.size≠g by omega)).trans hHeld.1,(aG (show w.heap.size+1≠g by omega)).trans hHeld.2.1,(aG (show wr.heap.size≠g by omega)).trans hHeld.2.2⟩) (fun hHeld=>?_);clear hK K;refine wpAnyH_done (by kernel_rfl) ?_ _;have HLQ6:=zh (Lq.step HLW.out (by omega) hjc hjg hjl (show W0.heap.size≤W.heap.size by have:=HWS.out;omega) HCC.out (by rw [HX.out,HU.out];exact HY.out) HGN.out HGG.out);have HC6:=zh (aA.st5o (g:=g) (o:=j*6+1) (v0:= .int .i64 yk) (v1:= .int .i64 yn) (v2:= .string yS) (v3:= .slice yA yl yc) (v4:= .slice yB ym yd) (HC.out.trans ((aA.of HWB.out.drew).trans (HCC.out.more HGJ.out))) (.inl HGF.out));have HNM6:=zh (show ∀ g',some (⟨g,0,none⟩:Addr)=some ⟨g',0,none⟩→0<m→cW g' v.ns (eL w5 g (j*6+1) (.int .i64 yk) (.int .i64 yn) (.string yS) (.slice yA yl yc) (.slice yB ym yd)) from fun g' e _=>by
      injection e with e
      injection e with e
      subst e;exact cW.step ((HNM.out g rfl (by omega)).keep ((HFAR0.out).trans (HWB.out.block g (by omega)))))
     clear hHeld z0 z1 z2 z3 z4 e0 e1 e2 e3 e4;go_wp2_with fail;go_roundw
     case rel=>exact ⟨j+1,by go_num,by omega,(show qaD _ _ _ _ _ _ _ _ _ _ from .inr ⟨g,_,_,h0,rfl,HGF.out,HLQ6.out⟩),HC6.out,HNM6.out⟩
     case measure=>simp [intOf];omega
   ·have t1:decide ((j:Int)<(m:Int))=false:=zF (by omega);have t2:decide (j<m)=false:=zF hlt;obtain rfl:m=j:=by omega
    obtain ⟨G,hy,hGn,hG,hc⟩:=qks HV.out HFL.out HECS.out HNL.out HND.out HLT.out HB0.out (by rw [HMEN.out];exact HLQ.out) (by rw [HMEN.out];exact HNM.out) HC.out;have HRT:=zh (qd2 (b:=w.heap.size+2) HB0.out (by omega) (by rw [HS0.out];omega) HFN.out hy hGn hG hc);clear hy hGn hG hc;rw [HEC.out] at HRT;obtain ⟨⟨v0,v1,v2,v3,v4⟩, -⟩:=ae HV1.out;obtain ⟨⟨z0,z1,z2,z3,z4'⟩,⟨f0,f1,f2,f3,f4⟩⟩:=ae HZ1.out;go_wp2_with fail;refine bodyPost_ret (qd9 rfl rfl (cr HZ1.out (.int .i64 k) (.int .i64 n) (.string S) (.slice A l c) (.slice A2 m d))) rfl ?_;exact ⟨_,G,rfl,HRT.out _ _ _ _ _⟩
 by_cases h15:q1=15
 ·have HRE:=zh (HE14.out (by omega));rw [HRE.out];subst h15;clear HE12 HE18 HE13 HE14 HE0 HDT HIL;have hst:∃ Gs0:List (List Nat),qaD 6 1 W0.heap.size A2 FM v.ms Gs0 (aw ar) 0 W0∧(∀ x∈Gs0.flatten,x∈FM)∧∀ g,A2=some ⟨g,0,none⟩→0<m→cW g v.ns W0:=by
   rcases HFM.out with ⟨h0,rfl⟩ | ⟨g,T,h0,eA,rfl,hr⟩
   ·exact ⟨[],.inl h0,(fun x hx=>by cases hx),fun g _ h=>by have:=HMEN.out;omega⟩
   ·have hkp:∀ x∈g::T,W0.heap[x]? = w.heap[x]?:=fun x hx=>HB0.out.block x (HFN.out x (List.mem_append_right _ hx));have hlt:∀ x∈g::T,x<W0.heap.size:=fun x hx=>by have:=HFN.out x (List.mem_append_right _ hx);have:=HS0.out;omega
    obtain ⟨Gs,eG,hq,hN⟩:=Lq.start6 (N:=W0.heap.size) (F:=g::T) (f:=aw ar) (bf.keep v.ms g 0 v.ns T (hkp g (by simp)) (fun x hx=>hkp x (by simp [hx])) hr) HNL.out HNP.out.2.1 hlt (fun x hx=>hx);exact ⟨Gs,.inr ⟨g,_,Gs,h0,eA,by simp,hq⟩,(fun x hx=>by rw [eG] at hx;simp [hx]),fun g' e _=>by rw [eA] at e;injection e with e;injection e with e;subst e;exact hN⟩
  obtain ⟨Gs0,hst,hgs,hnm0'⟩:=hst;have HST:=zh hst;have HGS:=zh hgs;have HNM0:=zh hnm0';clear hst hgs hnm0';go_enter Tryz.func57,Tryz.ntmps57;have q:=HP0.out;rw [HW0.out] at q;obtain ⟨⟨p0,p1,p2,p3,p4⟩, -⟩:=Sm.aU q;clear q;have q:=HV0.out;rw [HW0.out] at q;obtain ⟨⟨v0,v1,v2,v3,v4⟩, -⟩:=ae q;clear q;have q:=HZ0.out;rw [HW0.out] at q;obtain ⟨⟨z0,z1,z2,z3,z4'⟩,⟨f0,f1,f2,f3,f4⟩⟩:=ae q;clear q;go_wp2_with fail;rw [←HW0.out];clear p0 p1 p2 p3 p4 v0 v1 v2 v3 v4 z0 z1 z2 z3 z4' f0 f1 f2 f3 f4;go_loopw [48] (fun si wr=>∃ j:Nat,si = .int .i64 (j:Int)∧j≤m∧Aside (qaD 6 1 W0.heap.size A2 FM v.ms Gs0 (aw ar) j wr)∧Aside (aA FM W0 wr)∧Aside (∀ g,A2=some ⟨g,0,none⟩→0<m→cW g v.ns wr)) (fun si _=>m-(intOf si).toNat)
  case atStart=>exact ⟨0,rfl,by omega,HST.out,(show aA _ _ _ from aA.refl _ _),HNM0.out⟩
  case round=>
   obtain ⟨j,rfl,hjn,hLq,hC,hNm'⟩:=hrel;have HC:=zh hC.out;have HLQ:=zh hLq.out;have HNM:=zh hNm'.out;have hws:W0.heap.size≤wr.heap.size:=hC.out.size;have hw3:w.heap.size+3≤wr.heap.size:=by have:=HS0.out;omega
   have hout:∀ b,w.heap.size≤b→b<w.heap.size+3→wr.heap[b]? = W0.heap[b]?:=fun b h1 h2=>HC.out.block b (by have:=HS0.out;omega) (fun hx=>by have:=HFN.out b (List.mem_append_right _ hx);omega);have HP1:=zh ((hout w.heap.size (by omega) (by omega)).trans HP0.out);have HV1:=zh ((hout (w.heap.size+1) (by omega) (by omega)).trans HV0.out);have HZ1:=zh ((hout (w.heap.size+2) (by omega) (by omega)).trans HZ0.out);clear hLq hC hout hNm';by_cases hlt:j<m
   ·have t1:decide ((j:Int)<(m:Int))=true:=zT (by omega);have t2:decide (j<m)=true:=zT hlt;have k0:(0:Int)≤(j:Int):=by omega
    have k1:(j:Int)<(m:Int):=by omega
    have k2:((j:Int)).toNat=j:=by omega
    have hjl:j<v.ms.length:=by rw [HMEN.out];exact hlt
    rcases HLQ.out with h | ⟨g,lc,Gs,h0,e,hgF,hq⟩
    ·omega
    ·subst e;have hjc:j<lc.length:=by rw [hq.ll];exact hjl
     have hjg:j<Gs.length:=by rw [hq.it.len];exact hjc
     have hj0:j<Gs0.length:=by rw [hq.gl];exact hjl
     have hgl:g<w.heap.size:=HFN.out g (List.mem_append_right _ hgF);have hGj:∀ x∈Gs[j],x∈FM:=fun x hx=>HGS.out x (by rw [hq.gold j hjg hj0 (Nat.le_refl _)] at hx;exact aq hj0 hx);have hGl:∀ x∈Gs[j],x<w.heap.size:=fun x hx=>HFN.out x (List.mem_append_right _ (hGj x hx));obtain ⟨xcs,hxc,hxv⟩:=hq.it.at_ j hjc hjg;rw [hq.old j hjc hjl (Nat.le_refl _)] at hxv;have hmem:v.ms[j]∈v.ms:=List.getElem_mem hjl;have hjns:j<v.ns.length:=by rw [HNL.out];exact hjl
     have an:=((HNM.out g rfl (by omega) j hjns) 0 _ rfl).1;generalize aa v.ns[j]=X at an;obtain ⟨x,hx⟩:∃ x,v.ms[j]=x:=⟨_,rfl⟩
     rw [hx] at hxv hmem;have HX:=zh hx;obtain ⟨xA,xc,xB,xd,_,_,rfl, -⟩:=hxv.cells;have hnj:=hq.it.nod;rw [List.nodup_cons] at hnj;have HCP0:=zh (fun (W:World) (hW:Below wr.heap.size wr W)=>HLL.out ar x _ Gs[j] W (Nat.lt_trans (qdm hmem) HHT.out) (RdF.keep _ _ _ (fun b hb=>hW.block b (hq.it.lt b (List.mem_cons_of_mem _ (aq hjg hb)))) hxv) (cG Gs hnj.2 j hjg) (fun b hb=>Nat.lt_of_lt_of_le (hq.it.lt b (List.mem_cons_of_mem _ (aq hjg hb))) hW.size) (aV HZ8.out hmem));rw [HAR.out] at HCP0;have a0:=(hxc 0 _ rfl).1;have a1:=(hxc 1 _ rfl).1;have a2:=(hxc 2 _ rfl).1;have a3:=(hxc 3 _ rfl).1;have a4:=(hxc 4 _ rfl).1;simp only [Nat.add_zero,Nat.add_assoc,Nat.reduceAdd] at a0 a1 a2 a3 a4 an;obtain ⟨u,hu⟩:∃ u,aw ar x=u:=⟨_,rfl⟩
     have HU:=zh hu;rw [hu] at HCP0;generalize x.k=xk at *;generalize x.n=xn at *;generalize aa x.s=xS at *;generalize x.l.length=xl at *;generalize x.ms.length=xm at *;obtain ⟨W,hW⟩:∃ W,W=wr.alloc (.cells #[.string X,.int .i64 xk,.int .i64 xn,.string xS,.slice xA xl xc,.slice xB xm xd] 44):=⟨_,rfl⟩
     have hWs:W.heap.size=wr.heap.size+1:=by rw [hW,aF]
     have hWb:Below wr.heap.size wr W:=by rw [hW];exact (Below.refl _ _).alloc (Nat.le_refl _) _
     have hWbox:W.heap[wr.heap.size]? = some (.cells #[.string X,.int .i64 xk,.int .i64 xn,.string xS,.slice xA xl xc,.slice xB xm xd] 44 (0,0)):=by rw [hW];exact ag wr _
     have HSt:=zh (And.intro ((hWb.block w.heap.size (by omega)).trans HP1.out) (And.intro ((hWb.block (w.heap.size+1) (by omega)).trans HV1.out) hWbox));have HCP:=zh (HCP0.out W.drew hWb.drew);have HLW:=zh (hq.keep hWb.drew);have HWB:=zh hWb;have HWS:=zh hWs;have HGF:=zh hgF;have HGJ:=zh hGj;have HGL:=zh hGl;have HW:=zh hW;have HQ:=zh hq;clear hx hu hxv hxc hmem hnj HCP0 hW hWs hWb hWbox hgF hGj hGl hq;go_wp2_with fail;rw [←HW.out];clear a0 a1 a2 a3 a4 an;refine wp_region_held_drew (S:=fun w'=>w'.heap[w.heap.size]? = some (.cells #[.string q0,.int .i64 15,.string q2,.bool q3,.string q4] 76 (0,0))∧w'.heap[w.heap.size+1]? = some (.cells #[.int .i64 k,.int .i64 n,.string S,.slice A l c,.slice (some ⟨g,0,none⟩) m d] 25 (0,0))∧w'.heap[wr.heap.size]? = some (.cells #[.string X,.int .i64 xk,.int .i64 xn,.string xS,.slice xA xl xc,.slice xB xm xd] 44 (0,0))) (by kernel_rfl) (HSt.out) (fun hHeld=>?_);refine zm 0 ⟨some 53,.fieldAddr 25 (.tmp 3) 4,0,"normal.go:49",#[],none⟩ _ rfl (by kernel_rfl) (fun _ _ _ h=>h) (by rfl) hHeld (fun w hSw=>by go_simp;with_reducible rfl) ?_
     refine zm 1 ⟨some 54,.load 23 (.tmp 53),23,"normal.go:49",#[⟨0,.data⟩],none⟩ _ rfl (by kernel_rfl) (fun _ _ _ h=>h) (by rfl) hHeld (fun w hSw=>by obtain ⟨⟨a0,a1,a2,a3,a4⟩, -⟩:=Sm.aU hSw.1;obtain ⟨⟨b0,b1,b2,b3,b4⟩, -⟩:=ae hSw.2.1;obtain ⟨c0,c1,c2,c3,c4,c5⟩:=cH hSw.2.2;clear hSw;go_simp;with_reducible rfl) ?_
     refine zm 2 ⟨some 55,.move (.tmp 7),3,"normal.go:49",#[],none⟩ _ rfl (by kernel_rfl) (fun _ _ _ h=>h) (by rfl) hHeld (fun w hSw=>by go_simp;with_reducible rfl) ?_
     refine zm 3 ⟨some 56,.fieldAddr 76 (.tmp 2) 2,0,"normal.go:49",#[],none⟩ _ rfl (by kernel_rfl) (fun _ _ _ h=>h) (by rfl) hHeld (fun w hSw=>by go_simp;with_reducible rfl) ?_
     refine zm 4 ⟨some 57,.load 9 (.tmp 56),9,"normal.go:49",#[⟨3,.data⟩],none⟩ _ rfl (by kernel_rfl) (fun _ _ _ h=>h) (by rfl) hHeld (fun w hSw=>by obtain ⟨⟨a0,a1,a2,a3,a4⟩, -⟩:=Sm.aU hSw.1;obtain ⟨⟨b0,b1,b2,b3,b4⟩, -⟩:=ae hSw.2.1;obtain ⟨c0,c1,c2,c3,c4,c5⟩:=cH hSw.2.2;clear hSw;go_simp;with_reducible rfl) ?_
     refine zm 5 ⟨some 58,.fieldAddr 44 (.tmp 8) 1,0,"normal.go:49",#[],none⟩ _ rfl (by kernel_rfl) (fun _ _ _ h=>h) (by rfl) hHeld (fun w hSw=>by go_simp;with_reducible rfl) ?_
     refine zm 6 ⟨some 59,.load 25 (.tmp 58),25,"normal.go:49",#[⟨5,.data⟩],none⟩ _ rfl (by kernel_rfl) (fun _ _ _ h=>h) (by rfl) hHeld (fun w hSw=>by obtain ⟨⟨a0,a1,a2,a3,a4⟩, -⟩:=Sm.aU hSw.1;obtain ⟨⟨b0,b1,b2,b3,b4⟩, -⟩:=ae hSw.2.1;obtain ⟨c0,c1,c2,c3,c4,c5⟩:=cH hSw.2.2;clear hSw;go_simp;with_reducible rfl) ?_
     refine wpAnyH_ready (rs:=[7]) (by kernel_rfl) (by simp) ?_;refine AllReadyH.cons (o:=⟨some 60,.call ⟨.value (.func 29),#[.tmp 57,.tmp 59],#[9,25]⟩,25,"normal.go:49",#[⟨4,.data⟩,⟨6,.data⟩],none⟩) rfl (fun K hK=>?_) AllReadyH.nil
     go_simp;refine HCP.out.mono ?_;rintro e w5 ⟨ys,G,rfl,hy,hGn,hG,hc⟩;obtain ⟨yA,yc,yB,yd,_,_,rfl, -⟩:=hy.cells;have HY:=zh hy;have HGN:=zh hGn;have HGG:=zh hG;have HCC:=zh hc;have hnj:=HLW.out.it.nod;rw [List.nodup_cons] at hnj;have hg5:w5.heap[g]? = W.drew.heap[g]?:=hc.block g (HLW.out.it.lt g (by simp)) (fun hx=>hnj.1 (aq hjg hx));obtain ⟨ocs,hoc,hov⟩:=HLW.out.it.at_ j hjc hjg;have hoc:=hoc.keep hg5;have ol:ocs.length=5:=by obtain ⟨_,_,_,_,_,_,eo, -⟩:=hov.cells;rw [eo];rfl
     have fz:=fun t (ht:t<5)=>(hoc t ocs[t] (List.getElem?_eq_getElem (by omega))).2;have fe:=fun t (ht:t<5)=>(hoc t ocs[t] (List.getElem?_eq_getElem (by omega))).1;have z0:=fz 0 (by omega);have z1:=fz 1 (by omega);have z2:=fz 2 (by omega);have z3:=fz 3 (by omega);have z4:=fz 4 (by omega);have e0:=fe 0 (by omega);have e1:=fe 1 (by omega);have e2:=fe 2 (by omega);have e3:=fe 3 (by omega);have e4:=fe 4 (by omega);generalize ocs[0]=oc0 at *;generalize ocs[1]=oc1 at *;generalize ocs[2]=oc2 at *;generalize ocs[3]=oc3 at *;generalize ocs[4]=oc4 at *;rw [Nat.add_zero] at z0 e0;generalize u.k=yk at *;generalize u.n=yn at *;generalize aa u.s=yS at *;generalize u.l.length=yl at *;generalize u.ms.length=ym at *;have hfar:∀ b,w.heap.size≤b→b≤wr.heap.size→w5.heap[b]? = W.heap[b]?:=fun b h1 h2=>HCC.out.block b (show b<W.heap.size by have:=HWS.out;omega) (fun hx=>by have:=HGL.out b hx;omega);have HFAR:=zh hfar;have HFAR0:=zh (show w5.heap[g]? = W.heap[g]? from hg5);clear hy hGn hG hc hnj hg5 hoc hov ol fz fe hfar;refine hK.out _ _ (⟨(HFAR.out _ (by omega) (by omega)).trans HSt.out.1,(HFAR.out _ (by omega) (by omega)).trans HSt.out.2.1,(HFAR.out _ (by omega) (by omega)).trans HSt.out.2.2⟩) (fun hHeld=>?_);clear hK K;refine zm 8 ⟨some 61,.indexAddr 23 (.tmp 54) (.tmp 55),0,"normal.go:49",#[⟨1,.data⟩,⟨2,.data⟩,⟨0,.phase⟩,⟨1,.phase⟩,⟨2,.phase⟩,⟨3,.phase⟩,⟨4,.phase⟩,⟨5,.phase⟩,⟨6,.phase⟩,⟨7,.phase⟩],none⟩ _ rfl (by kernel_rfl) (fun _ _ _ h=>h) (by rfl) hHeld (fun w hSw=>by go_simp;with_reducible rfl) ?_
     refine zm 9 ⟨some 62,.fieldAddr 44 (.tmp 61) 1,0,"normal.go:49",#[⟨8,.data⟩,⟨0,.phase⟩,⟨1,.phase⟩,⟨2,.phase⟩,⟨3,.phase⟩,⟨4,.phase⟩,⟨5,.phase⟩,⟨6,.phase⟩,⟨7,.phase⟩],none⟩ _ rfl (by kernel_rfl) (fun _ _ _ h=>h) (by rfl) hHeld (fun w hSw=>by go_simp;with_reducible rfl) ?_
     refine wpAnyH_ready (rs:=[10]) (by kernel_rfl) (by simp) ?_;refine AllReadyH.cons (o:=⟨none,.store 25 (.tmp 62) (.tmp 60),0,"normal.go:49",#[⟨9,.data⟩,⟨7,.data⟩,⟨7,.chain⟩,⟨0,.phase⟩,⟨1,.phase⟩,⟨2,.phase⟩,⟨3,.phase⟩,⟨4,.phase⟩,⟨5,.phase⟩,⟨6,.phase⟩,⟨7,.phase⟩],none⟩) rfl (fun K hK=>?_) AllReadyH.nil
     go_simp;refine hK.out _ _ (⟨(aG (show w.heap.size≠g by omega)).trans hHeld.1,(aG (show w.heap.size+1≠g by omega)).trans hHeld.2.1,(aG (show wr.heap.size≠g by omega)).trans hHeld.2.2⟩) (fun hHeld=>?_);clear hK K;refine wpAnyH_done (by kernel_rfl) ?_ _;have HLQ6:=zh (Lq.step HLW.out (by omega) hjc hjg hjl (show W0.heap.size≤W.heap.size by have:=HWS.out;omega) HCC.out (by rw [HX.out,HU.out];exact HY.out) HGN.out HGG.out);have HC6:=zh (aA.st5o (g:=g) (o:=j*6+1) (v0:= .int .i64 yk) (v1:= .int .i64 yn) (v2:= .string yS) (v3:= .slice yA yl yc) (v4:= .slice yB ym yd) (HC.out.trans ((aA.of HWB.out.drew).trans (HCC.out.more HGJ.out))) (.inl HGF.out));have HNM6:=zh (show ∀ g',some (⟨g,0,none⟩:Addr)=some ⟨g',0,none⟩→0<m→cW g' v.ns (eL w5 g (j*6+1) (.int .i64 yk) (.int .i64 yn) (.string yS) (.slice yA yl yc) (.slice yB ym yd)) from fun g' e _=>by
      injection e with e
      injection e with e
      subst e;exact cW.step ((HNM.out g rfl (by omega)).keep ((HFAR0.out).trans (HWB.out.block g (by omega)))))
     clear hHeld z0 z1 z2 z3 z4 e0 e1 e2 e3 e4;go_wp2_with fail;go_roundw
     case rel=>exact ⟨j+1,by go_num,by omega,(show qaD _ _ _ _ _ _ _ _ _ _ from .inr ⟨g,_,_,h0,rfl,HGF.out,HLQ6.out⟩),HC6.out,HNM6.out⟩
     case measure=>simp [intOf];omega
   ·have t1:decide ((j:Int)<(m:Int))=false:=zF (by omega);have t2:decide (j<m)=false:=zF hlt;obtain rfl:m=j:=by omega
    obtain ⟨G,hy,hGn,hG,hc⟩:=qks HV.out HFL.out HECS.out HNL.out HND.out HLT.out HB0.out (by rw [HMEN.out];exact HLQ.out) (by rw [HMEN.out];exact HNM.out) HC.out;have HRT:=zh (qd2 (b:=w.heap.size+2) HB0.out (by omega) (by rw [HS0.out];omega) HFN.out hy hGn hG hc);clear hy hGn hG hc;rw [HEC.out] at HRT;obtain ⟨⟨v0,v1,v2,v3,v4⟩, -⟩:=ae HV1.out;obtain ⟨⟨z0,z1,z2,z3,z4'⟩,⟨f0,f1,f2,f3,f4⟩⟩:=ae HZ1.out;go_wp2_with fail;refine bodyPost_ret (qd9 rfl rfl (cr HZ1.out (.int .i64 k) (.int .i64 n) (.string S) (.slice A l c) (.slice A2 m d))) rfl ?_;exact ⟨_,G,rfl,HRT.out _ _ _ _ _⟩
 have HRE:=zh (HE0.out h12 h18 h13 h14 h15);rw [HRE.out];have t12:(q1==12)=false:=beq_eq_false_iff_ne.2 h12;have t18:(q1==18)=false:=beq_eq_false_iff_ne.2 h18;have t13:(q1==13)=false:=beq_eq_false_iff_ne.2 h13;have t14:(q1==14)=false:=beq_eq_false_iff_ne.2 h14;have t15:(q1==15)=false:=beq_eq_false_iff_ne.2 h15;obtain ⟨W9,hW9⟩:∃ W9,W9=((w.alloc (.cells #[.string q0,.int .i64 q1,.string q2,.bool q3,.string q4] 76)).alloc (.cells #[.int .i64 k,.int .i64 n,.string S,.slice A l c,.slice A2 m d] 25)).alloc (.cells #[.int .i64 k,.int .i64 n,.string S,.slice A l c,.slice A2 m d] 25):=⟨_,rfl⟩
 have HB9:=zh (show Below w.heap.size w W9 by rw [hW9];exact (((Below.refl _ _).alloc (Nat.le_refl _) _).alloc (by rw [aF];omega) _).alloc (by rw [aF,aF];omega) _);have HZ9:=zh (show W9.heap[w.heap.size+2]? = some (.cells #[.int .i64 k,.int .i64 n,.string S,.slice A l c,.slice A2 m d] 25 (0,0)) by rw [hW9];have:=ag ((w.alloc (.cells #[.string q0,.int .i64 q1,.string q2,.bool q3,.string q4] 76)).alloc (.cells #[.int .i64 k,.int .i64 n,.string S,.slice A l c,.slice A2 m d] 25)) (.cells #[.int .i64 k,.int .i64 n,.string S,.slice A l c,.slice A2 m d] 25);rwa [aF,aF] at this);have HRT:=zh (show RdF W9 v cs (FL++FM)∧(FL++FM).Nodup∧(∀ x∈FL++FM,(x∈FL++FM∨w.heap.size≤x)∧x<W9.heap.size)∧aA (FL++FM) w W9 from ⟨RdF.keep _ _ _ (fun x hx=>HB9.out.block x (HFN.out x hx)) HV.out,HND.out,fun x hx=>⟨.inl hx,Nat.lt_of_lt_of_le (HFN.out x hx) HB9.out.size⟩,aA.of HB9.out⟩);have HW9:=zh hW9;clear hW9;rw [HEC.out] at HRT;clear HE12 HE18 HE13 HE14 HE0 HDT HIL h12 h18 h13 h14 h15;go_enter Tryz.func57,Tryz.ntmps57;have q:=HP0.out;rw [HW0.out] at q;obtain ⟨⟨p0,p1,p2,p3,p4⟩, -⟩:=Sm.aU q;clear q;have q:=HV0.out;rw [HW0.out] at q;obtain ⟨⟨v0,v1,v2,v3,v4⟩, -⟩:=ae q;clear q;have q:=HZ0.out;rw [HW0.out] at q;obtain ⟨⟨z0,z1,z2,z3,z4'⟩,⟨f0,f1,f2,f3,f4⟩⟩:=ae q;clear q;go_wp2_with fail;rw [←HW9.out];refine bodyPost_ret (qd9 rfl rfl HZ9.out) rfl ?_;exact ⟨_,_,rfl,HRT.out⟩
end Cd
namespace Cd
open Go.Proofs Go.RowKit Go.Lib Utf Sc Re Tr
theorem ql5 {Gs:List (List Nat)} {j:Nat} (hj:j<Gs.length):(Gs.take (j+1)).flatten=(Gs.take j).flatten++Gs[j]:=by
 rw [bZ Gs j hj,List.flatten_append,List.flatten_singleton]
theorem qew {Gs:List (List Nat)} {j x:Nat} (h:x∈(Gs.take j).flatten):x∈Gs.flatten:=by
 obtain ⟨A,hA,hx⟩:=List.mem_flatten.1 h;exact List.mem_flatten.2 ⟨A,List.mem_of_mem_take hA,hx⟩
theorem qeP:∀ {Gs:List (List Nat)} {j:Nat} (hj:j<Gs.length),Gs.flatten.Nodup→∀ x∈Gs[j],x∉(Gs.take j).flatten
 | [],_,hj,_,_,_=>by simp at hj
 | A::r,0,_,_,x,_=>by simp
 | A::r,j+1,hj,h,x,hx=>by
  rw [List.flatten_cons,List.nodup_append] at h;rw [List.take_succ_cons,List.flatten_cons,List.mem_append];have hj':j<r.length:=by simpa using hj
  rintro (h1 | h1)
  ·exact h.2.2 x h1 x (aq hj' (by simpa using hx)) rfl
  ·exact qeP hj' h.2.1 x (by simpa using hx) h1
theorem qlq {w:World} {v:V} {A2:Option Addr} {FM:List Nat} (hFM:(v.ms.length=0∧FM=[])∨∃ g T,0<v.ms.length∧A2=some ⟨g,0,none⟩∧FM=g::T∧bf w g 0 v.ns v.ms T) (hn:v.ns.length=v.ms.length) (hnd:FM.Nodup) :
  ∃ Gs:List (List Nat),(∀ x∈Gs.flatten,x∈FM)∧∀ j,j<v.ms.length→∃ (g:Nat) (nm:List UInt8) (x:V) (xs:List Value) (Gj:List Nat),A2=some ⟨g,0,none⟩∧g∈FM∧g∉Gs.flatten∧(mem v).take (j+1)=(mem v).take j++[(nm,x)]∧x∈v.ms∧
   am w g (j*6) (.string (aa nm)::xs)∧RdF w x xs Gj∧Gj.Nodup∧(∀ y∈Gj,y∈FM∧y∉(Gs.take j).flatten)∧(Gs.take (j+1)).flatten=(Gs.take j).flatten++Gj:=by
 rcases hFM with ⟨h0,rfl⟩ | ⟨g,T,h0,eA,rfl,hr⟩
 ·exact ⟨[],fun x hx=>by simp at hx,fun j hj=>by omega⟩
 ·obtain ⟨Gs,f1,rfl,f3⟩:=bf.items v.ms v.ns T 0 hr hn;rw [List.nodup_cons] at hnd;refine ⟨Gs,fun x hx=>List.mem_cons_of_mem _ hx,fun j hj=>?_⟩;have hjg:j<Gs.length:=by omega
  have hjn:j<v.ns.length:=by omega
  obtain ⟨cs,p1,p2⟩:=f3 j hj hjg hjn;rw [Nat.zero_add] at p1;have hz:j<(mem v).length:=by unfold mem;rw [List.length_zip];omega
  have e2:(mem v)[j]=(v.ns[j],v.ms[j]):=by show (v.ns.zip v.ms)[j]'hz=_;exact List.getElem_zip
  exact ⟨g,v.ns[j],v.ms[j],cs,Gs[j],eA,List.mem_cons_self,hnd.1,by rw [bZ (mem v) j hz,e2],List.getElem_mem hj,p1,p2,cG Gs hnd.2 j hjg,
   fun y hy=>⟨List.mem_cons_of_mem _ (aq hjg hy),qeP hjg hnd.2 y hy⟩,ql5 hjg⟩
theorem qf7 {B N:Nat} {U Gj:List Nat} {mv:Value} {R:List Mb} {W1 w w':World} (h:dw B N U mv R w) (hc:aA (B::U) W1 w) (hb:Below w.heap.size w w'):dw B N (U++Gj) mv R w'∧aA (B::(U++Gj)) W1 w':=
 ⟨(h.keep hb).more fun x hx=>List.mem_append_left _ hx,(hc.trans (aA.of hb)).more fun x hx=>by
  rcases List.mem_cons.1 hx with rfl | hx
  ·exact List.mem_cons_self
  ·exact List.mem_cons_of_mem _ (List.mem_append_left _ hx)⟩
theorem qkA {B N:Nat} {U Gj:List Nat} {mv mv':Value} {R:List Mb} {W1 u w8 w9:World} {o:Obj} (h:dw B N U mv R u) (hc:aA (B::U) W1 u) (hB:W1.heap.size=B+1) (hNB:N≤B) (hGj:∀ y∈Gj,y<N∧y∉U) {nm:List UInt8} {y:V} {ys:List Value} {G:List Nat}
  (hy:RdF w8 y ys G) (hGn:G.Nodup) (hG:∀ x∈G,(x∈Gj∨u.heap.size≤x)∧x<w8.heap.size) (hcg:aA Gj u w8)
  (hown:w9.ownsRow B 44 6 mv' (R.length+1) ((R.map fun r=> .string (aa r.nm)::r.cs).flatten++(.string (aa nm)::ys))) (hg:(w8.alloc o).grownBy w9 mv.ownBlock) (ho:mv'.ownBlock=mv.ownBlock∨mv'.ownBlock=some (w8.alloc o).heap.size) :
  dw B N (U++Gj) mv' (R++[⟨nm,ys,y,G⟩]) w9∧aA (B::(U++Gj)) W1 w9:=by
 have hu:=hc.size;have h8:=hcg.size;have h1:dw B N U mv R w8:=h.chg hcg (fun x hx=>hGj x hx) hNB;have hb8:Below w8.heap.size w8 (w8.alloc o):=(Below.refl _ _).alloc (Nat.le_refl _) _;have h2:dw B N (U++Gj) mv R (w8.alloc o):=(h1.keep hb8).more fun x hx=>List.mem_append_left _ hx;have hlt:=h.own.lt;refine ⟨h2.push ⟨nm,ys,y,G⟩ hown hg ho (RdF.keep _ _ _ (fun k hk=>hb8.block k (hG k hk).2) hy) hGn (fun x hx=>⟨?_,?_,?_⟩) (fun x hx hr=>?_),?_⟩
 ·rcases (hG x hx).1 with h3 | h3
  ·exact .inl (List.mem_append_right _ h3)
  ·exact .inr (by omega)
 ·exact Nat.lt_of_lt_of_le (hG x hx).2 hb8.size
 ·intro e;have:=hlt x e;rcases (hG x hx).1 with h3 | h3
  ·have:=(hGj x h3).1;omega
  ·omega
 ·have hs:=h.sub x hr;rcases (hG x hx).1 with h3 | h3
  ·rcases hs.1 with h4 | h4
   ·exact (hGj x h3).2 h4
   ·have:=(hGj x h3).1;omega
  ·omega
 ·refine ⟨hg.os.trans (hb8.os.trans (hcg.os.trans hc.os)),hg.tape.trans (hb8.tape.trans (hcg.tape.trans hc.tape)),hg.output.trans (hb8.output.trans (hcg.output.trans hc.output)),by have:=hg.size;have:=hb8.size;omega,fun k hk hkF=>?_⟩;have k1:k≠B:=fun e=>hkF (by rw [e];exact List.mem_cons_self);have k2:k∉U:=fun e=>hkF (List.mem_cons_of_mem _ (List.mem_append_left _ e));have k3:k∉Gj:=fun e=>hkF (List.mem_cons_of_mem _ (List.mem_append_right _ e));have s8:=hb8.size;rw [hg.block k (by omega) fun e=>by have:=(hlt k e.symm).1;omega,hb8.block k (by omega),hcg.block k (by omega) k3];exact hc.block k hk fun e=>by
   rcases List.mem_cons.1 e with e | e
   ·exact k1 e
   ·exact k2 e
theorem qrB (R:List Mb) (w:World) (h:∀ r∈R,RdF w r.v r.cs r.G):∀ r∈R.map (fun r=>Value.string (aa r.nm)::r.cs),r.length=6:=fun r hr=>by
 obtain ⟨q,hq,rfl⟩:=List.mem_map.1 hr;obtain ⟨_,_,_,_,_,_,e, -⟩:=(h q hq).cells;rw [e];rfl
theorem qsU {B N:Nat} {U FL FM:List Nat} {A A2:Option Addr} {c d cm:Nat} {Am:Option Addr} {R:List Mb} {w W1 wr:World} {v:V} {cs:List Value} {of:List UInt8} (hv:RdF w v cs (FL++FM)) (e:cs=[.int .i64 v.k,.int .i64 v.n,.string (aa v.s),.slice A v.l.length c,.slice A2 v.ms.length d])
  (hFL:(v.l.length=0∧FL=[])∨∃ g T,0<v.l.length∧A=some ⟨g,0,none⟩∧FL=g::T∧bz w g 0 v.l T) (hnd:(FL++FM).Nodup) (hlt:∀ x∈FL++FM,x<w.heap.size) (hN:w.heap.size≤N) (hNB:N≤B) (hb:Below w.heap.size w W1)
  (hU:∀ x∈U,x∈FM) (ho:dw B N U (.slice Am R.length cm) R wr) (hc:aA (B::U) W1 wr) (hR:R.map (fun r=>(r.nm,r.v))=(mem v).filterMap (bP aw of)) :
  ∃ G,RdF wr (aw of v) [.int .i64 v.k,.int .i64 v.n,.string (aa v.s),.slice A v.l.length c,.slice Am R.length cm] G∧G.Nodup∧(∀ x∈G,(x∈FL++FM∨N≤x)∧x<wr.heap.size)∧aA (FL++FM) w wr:=by
 have hcap:=hv.caps e;rw [List.nodup_append] at hnd;have hs1:=hb.size;have hs2:=hc.size;have keep:∀ k,k<w.heap.size→k∉FM→wr.heap[k]? = w.heap[k]?:=fun k hk hkF=>(hc.block k (by omega) fun hx=>by
  rcases List.mem_cons.1 hx with h | h
  ·omega
  ·exact hkF (hU k h)).trans (hb.block k hk)
 have PL:(v.l.length=0∧FL=[])∨∃ g T,0<v.l.length∧A=some ⟨g,0,none⟩∧FL=g::T∧bz wr g 0 v.l T:=by
  have kl:∀ x∈FL,wr.heap[x]? = w.heap[x]?:=fun x hx=>keep x (hlt x (by simp [hx])) fun hy=>hnd.2.2 x hx x hy rfl;rcases hFL with h | ⟨g,T,h0,e,rfl,hr⟩
  ·exact .inl h
  ·exact .inr ⟨g,T,h0,e,rfl,bz.keep v.l g 0 T (kl g (by simp)) (fun x hx=>kl x (by simp [hx])) hr⟩
 have e1:((mem v).filterMap (bP aw of)).map Prod.fst=R.map Mb.nm:=by rw [←hR,List.map_map];rfl
 have e2:((mem v).filterMap (bP aw of)).map Prod.snd=R.map Mb.v:=by rw [←hR,List.map_map];rfl
 have hcm:R.length≤cm:=qi7 ho.own;have fin:∀ (G:List Nat),(((R.map Mb.v).length=0∧G=[])∨∃ g T,0<(R.map Mb.v).length∧Am=some ⟨g,0,none⟩∧G=g::T∧bf wr g 0 (R.map Mb.nm) (R.map Mb.v) T)→G.Nodup→(∀ x∈G,(x∈FM∨N≤x)∧x<wr.heap.size)→
   ∃ G,RdF wr (aw of v) [.int .i64 v.k,.int .i64 v.n,.string (aa v.s),.slice A v.l.length c,.slice Am R.length cm] G∧G.Nodup∧(∀ x∈G,(x∈FL++FM∨N≤x)∧x<wr.heap.size)∧aA (FL++FM) w wr:=fun G hG hGn hGs=>by
  rw [qqa,e1,e2];refine ⟨FL++G,RdF.of_cells ⟨A,c,Am,cm,FL,G,hcap.1,(by show (R.map Mb.v).length≤cm;rw [List.length_map];exact hcm),?_,(by show (R.map Mb.nm).length=(R.map Mb.v).length;rw [List.length_map,List.length_map]),rfl,PL,hG⟩,?_,fun x hx=>?_,⟨hc.os.trans hb.os,hc.tape.trans hb.tape,hc.output.trans hb.output,by omega,fun k hk hkF=>keep k hk fun h=>hkF (List.mem_append_right _ h)⟩⟩
  ·show _=[Value.int .i64 v.k,.int .i64 v.n,.string (aa v.s),.slice A v.l.length c,.slice Am (R.map Mb.v).length cm]
   rw [List.length_map]
  ·rw [List.nodup_append];refine ⟨hnd.1,hGn,fun a ha b hb e=>?_⟩;subst e;rcases (hGs a hb).1 with h1 | h1
   ·exact hnd.2.2 a ha a h1 rfl
   ·have:=hlt a (by simp [ha]);omega
  ·rcases List.mem_append.1 hx with h1 | h1
   ·have:=hlt x (by simp [h1]);exact ⟨.inl (by simp [h1]),by omega⟩
   ·exact ⟨(hGs x h1).1.imp (fun h=>by simp [h]) id,(hGs x h1).2⟩
 rcases Nat.eq_zero_or_pos R.length with h0 | h0
 ·exact fin [] (.inl ⟨by rw [List.length_map];exact h0,rfl⟩) List.nodup_nil (fun x hx=>by cases hx)
 ·obtain ⟨gb,rfl,g1,g2,hcell⟩:=qfX ho.own h0;have hlen:=qrB R wr ho.rd;refine fin (gb::(R.map Mb.G).flatten) (.inr ⟨gb,_,by rw [List.length_map];exact h0,rfl,rfl,bf.of_items _ _ _ 0 (by rw [List.length_map,List.length_map]) (by rw [List.length_map,List.length_map]) fun j j1 j2 j3=>?_⟩) ?_ fun x hx=>?_
  ·have hj:j<R.length:=by simpa using j1
   simp only [List.getElem_map];refine ⟨R[j].cs,?_,ho.rd _ (List.getElem_mem hj)⟩;have:=am.sub hlen hcell j (by rw [List.length_map];exact hj);rw [List.getElem_map,Nat.zero_add] at this;rw [Nat.zero_add];exact this
  ·rw [List.nodup_cons];exact ⟨fun hx=>(ho.sub gb hx).2.2 rfl,ho.nod⟩
  ·rcases List.mem_cons.1 hx with rfl | hx
   ·exact ⟨.inr (by omega),g2⟩
   ·exact ⟨(ho.sub x hx).1.imp (hU x) id,(ho.sub x hx).2.1⟩
end Cd
namespace Pa
open Go.Proofs Go.RowKit Go.Lib Utf Sc Re Tr Po
open Em (szU aL)
theorem quw {w:World} {v:V} {cs:List Value} {F:List Nat} (h:RdF w v cs F) {k n:Int} {S:ByteArray} {A A2:Option Addr} {l c m c2:Nat} (e:cs=[.int .i64 k,.int .i64 n,.string S,.slice A l c,.slice A2 m c2]) :
  (∀ j,j<l→∃ g,A=some ⟨g,0,none⟩∧g∈F∧w.there g (j*5) 5)∧(∀ j,j<m→∃ g,A2=some ⟨g,0,none⟩∧g∈F∧w.there g (j*6) 6):=by
 obtain ⟨A',c',A2',c2',FL,FM,e',hn,rfl,hL,hM⟩:=h.cells;rw [e] at e';simp only [List.cons.injEq,Value.slice.injEq,and_true] at e';obtain ⟨-, -, -,⟨rfl,rfl,rfl⟩,rfl,rfl,rfl⟩:=e';refine ⟨fun j hj=>?_,fun j hj=>?_⟩
 ·rcases hL with ⟨h0,_⟩ | ⟨g,T,_,e1,rfl,hr⟩
  ·omega
  ·obtain ⟨Fs,f1, -,f3⟩:=bz.items v.l T 0 hr;obtain ⟨cs',p1,p2⟩:=f3 j hj (by rw [f1];exact hj);obtain ⟨_,_,_,_,_,_,rfl, -⟩:=p2.cells;have:=p1.there;rw [Nat.zero_add] at this;exact ⟨g,e1,by simp,this⟩
 ·rcases hM with ⟨h0,_⟩ | ⟨g,T,_,e1,rfl,hr⟩
  ·omega
  ·obtain ⟨Fs,f1, -,f3⟩:=bf.items v.ms v.ns T 0 hr hn;obtain ⟨cs',p1,p2⟩:=f3 j hj (by rw [f1];exact hj) (by rw [hn];exact hj);obtain ⟨_,_,_,_,_,_,rfl, -⟩:=p2.cells;have:=p1.there;rw [Nat.zero_add] at this;exact ⟨g,e1,by simp,this⟩
structure KpI (W5:World) (FM:List Nat) (g:Nat) (T:List M3) (wr:World):Prop where
 chg:aA FM W5 wr
 there:∀ b o n,W5.there b o n→wr.there b o n
 vcs:∀ j (h:j<T.length),wr.cell? ⟨g,j*6+1+3,none⟩=some (.slice T[j].1.A T[j].1.l T[j].1.c)∧wr.cell? ⟨g,j*6+1+4,none⟩=some (.slice T[j].1.A2 T[j].1.m T[j].1.c2)
theorem KpI.set {W5 wr:World} {FM:List Nat} {g:Nat} {T:List M3} (h:KpI W5 FM g T wr) {b o:Nat} {vs:List Value} (hb:b∈FM) (hc:b≠g∨∃ i,o=i*6∧vs.length=1):KpI W5 FM g T (wr.setCells b o vs):=by
 refine ⟨h.chg.trans (qce b FM hb vs o wr),fun b' o' n hh=>World.there_setCells (h.there b' o' n hh) b o vs,fun j hj=>?_⟩;obtain ⟨h1,h2⟩:=h.vcs j hj;rcases hc with hc | ⟨i,rfl,h3⟩
 ·exact ⟨(World.cell?_setCells_out b vs o wr _ (fun e=>absurd e.symm hc)).trans h1,(World.cell?_setCells_out b vs o wr _ (fun e=>absurd e.symm hc)).trans h2⟩
 ·exact ⟨(World.cell?_setCells_out b vs _ wr _ (fun _ _=>by show _<_∨_≤_;rw [h3];simp only;omega)).trans h1,(World.cell?_setCells_out b vs _ wr _ (fun _ _=>by show _<_∨_≤_;rw [h3];simp only;omega)).trans h2⟩
theorem KpI.start {W5:World} {FM:List Nat} {A:Option Addr} {T:List M3} (h:qh1 W5 A T FM):∃ g,(0<T.length→A=some ⟨g,0,none⟩∧FM=g::tF T∧∀ j,j<T.length→W5.there g (j*6) 6)∧KpI W5 FM g T W5:=by
 by_cases h0:0<T.length
 ·obtain ⟨g,e,e2,hc⟩:=h.at_ h0;refine ⟨g,fun _=>⟨e,e2,fun j hj=>(hc j hj).there⟩,aA.refl _ _,fun _ _ _ h=>h,fun j hj=>?_⟩;have:=hc j hj;exact ⟨(this 4 _ rfl).1,(this 5 _ rfl).1⟩
 ·exact ⟨0,fun h=>absurd h h0,aA.refl _ _,fun _ _ _ h=>h,fun j hj=>by omega⟩
end Pa
namespace Cd
open Go.Proofs Go.RowKit Go.Lib Utf Sc Re Tr Po Pa
open Em (szU aL aZ br)
theorem quB {v:V} {w w':World} {e:Ending} (h:qgL v w e w') (hl:aZ v) (hk:szU v≤1048576) :
  ∃ (xk xn:Int) (xS:ByteArray) (xA:Option Addr) (xl xc:Nat) (xB:Option Addr) (T:List M3) (xd:Nat) (FM:List Nat),e = .returned (.agg #[.int .i64 xk,.int .i64 xn,.string xS,.slice xA xl xc,.slice xB T.length xd])∧
   qh1 w' xB T FM∧FM.Nodup∧(∀ x∈FM,w.heap.size≤x∧x<w'.heap.size)∧T.length≤10000000∧(∀ t∈T,t.1.l≤10000000∧t.1.m≤10000000)∧Below w.heap.size w w':=by
 obtain ⟨v1,cs,F,rfl,hs,hr,hn,hlt,hb⟩:=h;have hz:szU (dT v v1)≤10000000:=by
  have h1:=(qet v1 v hs hl).2.2.1;have h2:=qpb v v1;omega
 obtain ⟨x,hx⟩:∃ x,dT v v1=x:=⟨_,rfl⟩
 rw [hx] at hr hz;obtain ⟨A,c,A2,c2,FL,FM,T,rfl,rfl, -,t2,hm⟩:=qqv hr;rw [List.nodup_append] at hn;have hl:x.ms.length=T.length:=by rw [←t2,qop]
 refine ⟨_,_,_,A,_,c,A2,T,c2,FM,by rw [hl],hm,hn.2.1,fun x hx=>hlt x (List.mem_append_right _ hx),by rw [←hl];exact Nat.le_trans (qn8 _) hz,fun t ht=>?_,hb⟩;have h1:t.2.1∈x.ms:=by rw [←t2];exact List.mem_map.2 ⟨t,ht,rfl⟩
 have h2:=Em.qaC h1;have h3:=qdA x;obtain ⟨_,_,_,_,_,_,e, -⟩:=(hm.rd t ht).cells;unfold dl at e;simp only [List.cons.injEq,Value.slice.injEq,and_true] at e;obtain ⟨-, -, -,⟨-,e1, -⟩, -,e2, -⟩:=e;have h5:=qn8 t.2.1;have h6:=qdA t.2.1;have h7:=Em.qaY t.2.1.l;omega
