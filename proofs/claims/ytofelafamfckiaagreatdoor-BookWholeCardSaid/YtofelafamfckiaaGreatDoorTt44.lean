/- Merged: BkAw0 BkF BkD0 BkT BkQ0. -/
import Derived.Test.YtofelafamfckiaaGreatDoorTt31
import Derived.Test.YtofelafamfckiaaGreatDoorTt43
namespace Go.Proofs.YtofelafamfckiaaGreatDoor
namespace Bk
open Go.Proofs Utf Sc Re Tr Em
open Cd (mem fst qbE)
set_option linter.unusedSimpArgs false
def awV:V:=mpV ([[110,97,109,101]],[txV [97]])
def awW:V:=mpV ([[115,111,114,116,79,114,100,101,114],[120]],[nmV (-1),nmV 1])
theorem qj0:cI [123,34,110,97,109,101,34,58,34,97,34,125] =
 ([(1,0,[123],0),(4,0,[110,97,109,101],1),(1,0,[58],7),(4,0,[97],8),(1,0,[125],11)],0,0):=by decide +kernel
theorem qlq:rdV [123,34,110,97,109,101,34,58,34,97,34,125]=(awV,0,0):=
 qii qj0 (by simp [rdT,cU,pV,pL,pM,tk,isM,qbY,Rs.map,txV,nmV,wdV,lsV,mpV,ce,bS,V0,awV,awW])
theorem qj7:cI [123,34,115,111,114,116,79,114,100,101,114,34,58,45,49,44,34,120,34,58,49,125] =
 ([(1,0,[123],0),(4,0,[115,111,114,116,79,114,100,101,114],1),(1,0,[58],12),(3, -1,[],13),(1,0,[44],15),(4,0,[120],16),(1,0,[58],19),(3,1,[],20),(1,0,[125],21)],0,0):=by decide +kernel
theorem qlL:rdV [123,34,115,111,114,116,79,114,100,101,114,34,58,45,49,44,34,120,34,58,49,125]=(awW,0,0):=
 qii qj7 (by simp [rdT,cU,pV,pL,pM,tk,isM,qbY,Rs.map,txV,nmV,wdV,lsV,mpV,ce,bS,V0,awV,awW])
theorem qjr:∀ n,bQ awV n=false:=(de awV).2 ⟨rfl,(fun m hm=>List.all_eq_true.1 (show ((mem awV).all fun m=>aP m.1 m.2)=true by decide +kernel) m hm),(by decide +kernel)⟩
theorem qip {v:V} (hk:v.k=6) {n:List UInt8} (h:bQ v n=true):n∈v.ns++[ay]:=by
 rw [List.mem_append];rcases (qaV hk n).1 h with ⟨m,h1,h2, -⟩ | ⟨rfl, -⟩
 ·exact .inl (h2▸qbE h1)
 ·exact .inr (by simp)
theorem ql2:(awW.ns++[ay]).all (fun n=>decide (bQ awW n=true↔n∈[[110,97,109,101],[115,111,114,116,79,114,100,101,114],[120]]))=true:=by decide +kernel
theorem qj9 : [[110,97,109,101],[115,111,114,116,79,114,100,101,114],[120]].all (fun n=>bQ awW n)=true:=by decide +kernel
theorem qls (n:List UInt8):bQ awW n=true↔n∈[[110,97,109,101],[115,111,114,116,79,114,100,101,114],[120]]:=by
 constructor
 ·intro h;have:=List.all_eq_true.1 ql2 n (qip rfl h);exact (of_decide_eq_true this).1 h
 ·intro h;exact List.all_eq_true.1 qj9 n h
theorem qhF {l r:List (List UInt8)} (hl:l.Pairwise fun a b=>ltN a b=true) (hr:r.Pairwise fun a b=>ltN a b=true) (h:∀ n,n∈l↔n∈r):l=r:=by
 have nd:∀ {q:List (List UInt8)},(q.Pairwise fun a b=>ltN a b=true)→q.Nodup:=fun hq=>hq.imp fun {a b} h e=>by subst e;rw [qej.irrefl] at h;cases h
 have le:∀ {q:List (List UInt8)},(q.Pairwise fun a b=>ltN a b=true)→q.Pairwise (fun a b=>ltN b a=false):=fun hq=>hq.imp fun {a b} h=>by
  cases hc:ltN b a with
  | false=>rfl
  | true=>
   have:=qej.trans _ _ _ h hc;rw [qej.irrefl] at this;cases this
 exact qdt l r ((List.perm_ext_iff_of_nodup (nd hl) (nd hr)).2 h) (le hl) (le hr)
theorem qi4:chk (aD awV)=0:=by decide +kernel
theorem qlA:qkD (aD awV)=[123,34,100,101,115,99,114,105,112,116,105,111,110,34,58,110,117,108,108,44,34,105,115,83,117,98,115,99,114,105,98,101,100,34,58,116,114,117,101,44,34,110,97,109,101,34,58,34,97,34,44,34,115,111,114,116,79,114,100,101,114,34,58,48,125]:=by
 unfold qkD;rw [if_pos qi4]
 decide +kernel
theorem qlh:aD awV=mpV (bW,[qcc,qcU,txV [97],qcL]):=by kernel_rfl
theorem qaf (v:V) (h:v=awV∨v=awW∨v=aD awV):wfV v∧szU v≤1000∧bv v:=by
 rcases h with rfl | rfl | rfl
 ·refine ⟨?_,?_,?_⟩
  ·simp [awV,mpV,nmV,txV,wfV,wfL];decide
  ·simp [awV,mpV,nmV,txV,szU,cr]
  ·simp [awV,mpV,nmV,txV,bv,cq]
 ·refine ⟨?_,?_,?_⟩
  ·simp [awW,mpV,nmV,txV,wfV,wfL];decide
  ·simp [awW,mpV,nmV,txV,szU,cr]
  ·simp [awW,mpV,nmV,txV,bv,cq]
 ·rw [qlh];refine ⟨?_,?_,?_⟩
  ·simp [bW,qcc,qcU,qcL,mpV,nmV,txV,wfV,wfL];decide
  ·simp [bW,bb,bO,ay,bK,qcc,qcU,qcL,mpV,nmV,txV,szU,cr]
  ·simp [bW,qcc,qcU,qcL,mpV,nmV,txV,bv,cq]
end Bk
namespace Bk
open Go.Proofs Go.RowKit Go.Lib Utf Sc Re Tr Po Pa
open Cd (mem tN tM mpT qgK dh qgm qcI)
def qgA (v:V) (w:World) (e:Ending) (w':World):Prop:=
 ∃ (x:Value) (ps:List (List UInt8)),e = .returned x∧w'.ownsRow w.heap.size 9 1 x ps.length (aI ps)∧ps.Pairwise (fun a b=>ltN a b=true)∧(∀ n,n∈ps↔bQ v n=true)∧Below w.heap.size w w'
def qer (v:V) (w:World) (e:Ending) (w':World):Prop:=
 (((∀ n,bQ v n=false)∧∃ g c,e = .returned (.agg #[.int .i64 6,.int .i64 0,.string ⟨#[]⟩,.slice none 0 0,.slice (some ⟨g,0,none⟩) 4 c])∧w.heap.size≤g∧g<w'.heap.size∧(∀ k,k<4→w'.there g (k*6) 6)∧RdA w' 0 w'.heap.size (aD v) [.int .i64 6,.int .i64 0,.string ⟨#[]⟩,.slice none 0 0,.slice (some ⟨g,0,none⟩) 4 c])∨
  (¬(∀ n,bQ v n=false)∧e = .returned (.agg #[.int .i64 0,.int .i64 0,.string ⟨#[]⟩,.slice none 0 0,.slice none 0 0])))∧Below w.heap.size w w'
end Bk
namespace Bk
open Go.Proofs Go.RowKit Go.Lib Utf Sc Re Tr Po
open Cd (mem fst)
theorem qkl (w:World) (lo hi:Nat) (k n:Int):RdA w lo hi (.mk k n [] [] [] []) [.int .i64 k,.int .i64 n,.string ⟨#[]⟩,.slice none 0 0,.slice none 0 0]:=by
 rw [RdA];exact ⟨none,0,none,0,rfl,rfl,fun h=>absurd h (by simp),fun h=>absurd h (by simp)⟩
theorem qdb:∀ (ns:List (List UInt8)) (ms:List V) (n:List UInt8) (d:V),ns.length=ms.length→n∈ns→ms.getD (ns.idxOf n) V0=(fst (ns.zip ms) n).getD d
 | [],_,_,_,_,h=>by cases h
 | a::r,[],_,_,h,_=>by simp at h
 | a::r,m::t,n,d,hl,h=>by
  unfold fst;rw [List.zip_cons_cons,List.find?_cons,List.idxOf_cons];by_cases e:a=n
  ·subst e;simp
  ·have ih:=qdb r t n d (by simpa using hl) (by rcases List.mem_cons.1 h with h | h;exact absurd h.symm e;exact h);unfold fst at ih;rw [decide_eq_false e,show (a==n)=false from beq_eq_false_iff_ne.2 e]
   simpa using ih
def qhn (i:Nat):Int:=match i with | 0=>1 | 1=>2 | 2=>0 | _=>3
def qhT (i:Nat):Int:=match i with | 1=>1 | _=>0
def bo (i:Nat):List UInt8:=bW.getD i []
theorem qmv {v:V} (hk:v.k=6) (hl:v.ns.length=v.ms.length) {n:List UInt8} (h:n∈inN v) (d:V):orV v n d=bP v n:=by
 unfold bP orV mem;unfold inN at h;rw [if_pos hk] at h;unfold inN inM;rw [if_pos hk,if_pos hk];exact (qdb v.ns v.ms n d hl h).symm
theorem ql0 {v:V} (hk:v.k=6) {n:List UInt8} (h:n∉inN v) (d:V):orV v n d=d:=by
 unfold inN at h;rw [if_pos hk] at h;unfold orV;rw [qeE.2 fun m hm (e:m.1=n)=>h (e▸Cd.qbE hm)];rfl
theorem qcG {v:V} (hk:v.k=6) (hl:v.ns.length=v.ms.length) {i:Nat} (hi:i<4):(bD v).getD i V0=if bo i∈inN v then bP v (bo i) else .mk (qhn i) (qhT i) [] [] [] []:=by
 split
 ·rename_i h
  match i,hi with
  | 0,_ | 1,_ | 2,_ | 3,_=>exact qmv hk hl h _
 ·rename_i h
  match i,hi with
  | 0,_ | 1,_ | 2,_ | 3,_=>exact ql0 hk h _
abbrev qkR:Array Value:= #[.string (ae bb),.string (ae bO),.string (ae ay),.string (ae bK)]
theorem qd0 {v:V} {nm:List UInt8} {w W:World} {e:Ending} {W':World} (hW:Below w.heap.size w W) (h:qdA w.heap.size v nm W e W') :
  (∃ (yk yn:Int) (ys:ByteArray) (yA:Option Addr) (yl yc:Nat) (yB:Option Addr) (yq yd:Nat),e = .returned (.tuple #[.agg #[.int .i64 yk,.int .i64 yn,.string ys,.slice yA yl yc,.slice yB yq yd],.bool (decide (nm∈inN v))])∧RdA w 0 w.heap.size (bP v nm) [.int .i64 yk,.int .i64 yn,.string ys,.slice yA yl yc,.slice yB yq yd])∧Below W.heap.size W W':=by
 obtain ⟨⟨cs,rfl,hr⟩,hb⟩:=h;have hr:=RdA.keep (w':=w) (fun p _ hp=>(hW.cell (p:=p) hp).symm) (Nat.le_refl _) (Nat.le_refl _) _ _ hr;obtain ⟨A,c,A2,c2,rfl, -⟩:=id hr.cells;exact ⟨⟨_,_,_,A,_,_,A2,_,_,rfl,hr⟩,hb⟩
end Bk
namespace Bk
open Go.RowKit Utf
def Tab (w:World):Prop:=∀ k,k<4→w.cell? ⟨0,k,none⟩=some (.string (ae (bo k)))
theorem Tab.lt {w:World} (h:Tab w):0<w.heap.size:=qgB (h 0 (by omega))
theorem Tab.below {w w':World} (h:Tab w) (hb:Below w.heap.size w w'):Tab w':=fun k hk=>(hb.cell (p:=⟨0,k,none⟩) h.lt).trans (h k hk)
end Bk
namespace Bk
open Go.Proofs Go.RowKit Go.Lib Utf Sc Re Tr Po
open Cd (mem fst)
structure Mw where
 nm:List UInt8
 cs:List Value
 v:V
 G:List Nat
def cQ (R:List Mw):List Value:=(R.map fun r=> .string (ae r.nm)::r.cs).flatten
structure qdk (B:Nat) (mv:Value) (R:List Mw) (w:World):Prop where
 own:w.ownsRow B 37 6 mv R.length (cQ R)
 rd:∀ r∈R,RdF w r.v r.cs r.G
 sub:∀ r∈R,∀ x∈r.G,B≤x∧x<w.heap.size∧mv.ownBlock≠some x
theorem qdk.keep {B:Nat} {mv:Value} {R:List Mw} {w w':World} (h:qdk B mv R w) (hb:∀ k,B≤k→k<w.heap.size→w'.heap[k]? = w.heap[k]?) (hs:w.heap.size≤w'.heap.size):qdk B mv R w' where
 own:=by
  have hlt:=h.own.lt;obtain ⟨h0,h1⟩:=h.own;refine ⟨h0,?_⟩;rcases h1 with h1 | ⟨g,cap,cur,rfl,h2,h3,h4⟩
  ·exact .inl h1
  ·exact .inr ⟨g,cap,cur,rfl,h2,(hb g h2 (hlt g rfl).2).trans h3,h4⟩
 rd:=fun r hr=>RdF.keep _ _ _ (fun k hk=>hb k (h.sub r hr k hk).1 (h.sub r hr k hk).2.1) (h.rd r hr)
 sub:=fun r hr x hx=>⟨(h.sub r hr x hx).1,Nat.lt_of_lt_of_le (h.sub r hr x hx).2.1 hs,(h.sub r hr x hx).2.2⟩
theorem qdk.push {B:Nat} {mv mv':Value} {R:List Mw} {w w':World} (h:qdk B mv R w) (r:Mw) (hown:w'.ownsRow B 37 6 mv' (R.length+1) (cQ R++(.string (ae r.nm)::r.cs))) (hg:w.grownBy w' mv.ownBlock)
  (ho:mv'.ownBlock=mv.ownBlock∨mv'.ownBlock=some w.heap.size) (hr:RdF w r.v r.cs r.G) (hs:∀ x∈r.G,B≤x∧x<w.heap.size∧mv.ownBlock≠some x):qdk B mv' (R++[r]) w':=by
 have key:∀ q∈R++[r],RdF w q.v q.cs q.G∧∀ x∈q.G,B≤x∧x<w.heap.size∧mv.ownBlock≠some x:=fun q hq=>by
  rcases List.mem_append.1 hq with hq | hq
  ·exact ⟨h.rd q hq,h.sub q hq⟩
  ·rw [List.mem_singleton] at hq;subst hq;exact ⟨hr,hs⟩
 refine ⟨?_,fun q hq=>RdF.keep _ _ _ (fun k hk=>hg.block k ((key q hq).2 k hk).2.1 fun e=>((key q hq).2 k hk).2.2 e.symm) (key q hq).1,fun q hq x hx=>?_⟩
 ·unfold cQ at hown ⊢;rw [List.length_append,List.map_append,List.flatten_append,List.map_cons,List.map_nil,List.flatten_singleton];exact hown
 ·obtain ⟨k1,k2,k3⟩:=(key q hq).2 x hx;refine ⟨k1,Nat.lt_of_lt_of_le k2 hg.size,fun e=>?_⟩;rcases ho with ho | ho
  ·exact k3 (ho▸e)
  ·rw [ho] at e;injection e with e
   omega
def WP (v:V) (wb:World) (b:Nat) (wr:World) (i:Nat):Prop:=∃ (A:Option Addr) (c:Nat) (R:List Mw),R.length=i∧wr.heap[b]? = some (.cells #[.int .i64 6,.int .i64 0,.string ⟨#[]⟩,.slice none 0 0,.slice A i c] 25 (0,0))∧qdk (b+1) (.slice A i c) R wr∧
 (∀ k (h:k<R.length),R[k].nm=bo k∧R[k].v=(bD v).getD k V0)∧Below b wb wr
theorem qaY {v y:V} {wb u w9:World} {b i c cap gb:Nat} {A:Option Addr} {R:List Mw} {o:Obj} {nm:List UInt8} {ys:List Value} {G:List Nat} (hR:R.length=i) (ho:qdk (b+1) (.slice A i c) R u) (hn:∀ k (h:k<R.length),R[k].nm=bo k∧R[k].v=(bD v).getD k V0) (hb:Below b wb u) (hbs:b<u.heap.size)
  (hrow:u.heap[b]? = some (.cells #[.int .i64 6,.int .i64 0,.string ⟨#[]⟩,.slice none 0 0,.slice A i c] 25 (0,0)))
  (hy:RdF u y ys G) (hG:∀ x∈G,b<x∧x<u.heap.size∧(Value.slice A i c).ownBlock≠some x)
  (hown:w9.ownsRow (b+1) 37 6 (.slice (some ⟨gb,0,none⟩) (i+1) cap) (i+1) (cQ R++(.string (ae nm)::ys))) (hg:(u.alloc o).grownBy w9 (Value.slice A i c).ownBlock)
  (hat:(Value.slice (some ⟨gb,0,none⟩) (i+1) cap).ownBlock=(Value.slice A i c).ownBlock∨(Value.slice (some ⟨gb,0,none⟩) (i+1) cap).ownBlock=some (u.alloc o).heap.size) (hnm:nm=bo i) (hyv:y=(bD v).getD i V0) :
  w9.heap[b]? = some (.cells #[.int .i64 6,.int .i64 0,.string ⟨#[]⟩,.slice none 0 0,.slice A i c] 25 (0,0))∧WP v wb b (w9.setCell ⟨b,4,none⟩ (.slice (some ⟨gb,0,none⟩) (i+1) cap)) (i+1):=by
 have hal:Below u.heap.size u (u.alloc o):=(Below.refl _ _).alloc (Nat.le_refl _) _;have hlt:=ho.own.lt;have h9:w9.heap[b]? = some (.cells #[.int .i64 6,.int .i64 0,.string ⟨#[]⟩,.slice none 0 0,.slice A i c] 25 (0,0)):=by
  rw [hg.block b (Nat.lt_of_lt_of_le hbs hal.size) fun e=>by have:=(hlt b e.symm).1;omega,hal.block b hbs];exact hrow
 have ho1:qdk (b+1) (.slice A i c) R (u.alloc o):=ho.keep (fun k _ hk=>hal.block k hk) hal.size;subst hR;have ho2:=ho1.push ⟨nm,ys,y,G⟩ hown hg hat (RdF.keep _ _ _ (fun k hk=>hal.block k (hG k hk).2.1) hy) fun x hx=>⟨(hG x hx).1,Nat.lt_of_lt_of_le (hG x hx).2.1 hal.size,(hG x hx).2.2⟩
 refine ⟨h9,some ⟨gb,0,none⟩,cap,R++[⟨nm,ys,y,G⟩],by rw [List.length_append];rfl,qaz w9 b 4 _ _ (.slice (some ⟨gb,0,none⟩) (R.length+1) cap) h9,ho2.keep (fun k hk _=>Below.heap_setCell _ _ _ _ (by show k≠b;omega)) (by simp),fun k hk=>?_,?_⟩
 ·by_cases hk2:k<R.length
  ·rw [List.getElem_append_left hk2];exact hn k hk2
  ·have e:k=R.length:=by rw [List.length_append] at hk;simp at hk;omega
   subst e;rw [List.getElem_append_right (Nat.le_refl _)];simp only [Nat.sub_self,List.getElem_cons_zero];exact ⟨hnm,hyv⟩
 ·refine ((hb.trans (hal.mono (Nat.le_of_lt hbs))).grown hg (Nat.le_trans (Nat.le_of_lt hbs) hal.size) (fun k hk=>?_)).setCell (p:=⟨b,4,none⟩) (Nat.le_refl _) _;have:=(hlt k hk).1;omega
theorem ql8 {v:V} {w wb wr:World} {b:Nat} (hg:∀ n,bQ v n=false) (h:WP v wb b wr 4) (hbw:w.heap.size≤b) (hb:Below w.heap.size w wr) :
  ∃ (A:Option Addr) (c:Nat),wr.heap[b]? = some (.cells #[.int .i64 6,.int .i64 0,.string ⟨#[]⟩,.slice none 0 0,.slice A 4 c] 25 (0,0))∧∀ r,w.heap.size≤r→r<b→qer v w (.returned (.agg #[.int .i64 6,.int .i64 0,.string ⟨#[]⟩,.slice none 0 0,.slice A 4 c])) (st5 wr r (.int .i64 6) (.int .i64 0) (.string ⟨#[]⟩) (.slice none 0 0) (.slice A 4 c)):=by
 obtain ⟨A,c,R,hR,hrow,ho,hn, -⟩:=h;refine ⟨A,c,hrow,fun r r1 r2=>?_⟩;obtain ⟨w5,hw5⟩:∃ w5,w5=st5 wr r (.int .i64 6) (.int .i64 0) (.string ⟨#[]⟩) (.slice none 0 0) (.slice A 4 c):=⟨_,rfl⟩
 have hs5:w5.heap.size=wr.heap.size:=by rw [hw5];exact qcM _ _ _ _ _
 have ho5:qdk (b+1) (.slice A 4 c) R w5:=ho.keep (fun k hk _=>by rw [hw5];exact qdK (by omega) _ _ _ _ _) (by omega);have hb5:Below w.heap.size w w5:=by rw [hw5];exact bu hb r1 _ _ _ _ _
 rw [←hw5];have hown:=ho5.own;rw [hR] at hown;have hcap:4≤c:=qfQ hown;obtain ⟨g,rfl,g1,g2,hcell⟩:=qdY hown (by decide);have hlen:∀ q∈R.map (fun r=>Value.string (ae r.nm)::r.cs),q.length=6:=fun q hq=>by
  obtain ⟨r,hr,rfl⟩:=List.mem_map.1 hq;obtain ⟨_,_,_,_,_,_,e, -⟩:=(ho5.rd r hr).cells;rw [e];rfl
 have hml:(bD v).length=4:=rfl;have hat:∀ j (hj:j<R.length),az w5 g (j*6) (.string (ae R[j].nm)::R[j].cs):=fun j hj=>by
  have:=az.sub hlen hcell j (by rw [List.length_map];exact hj);rw [List.getElem_map,Nat.zero_add] at this;exact this
 have hrf:RdF w5 (aD v) [.int .i64 6,.int .i64 0,.string ⟨#[]⟩,.slice none 0 0,.slice (some ⟨g,0,none⟩) 4 c] (g::(R.map Mw.G).flatten):=by
  refine RdF.of_cells ⟨none,0,some ⟨g,0,none⟩,c,[],g::(R.map Mw.G).flatten,Nat.le_refl _,hcap,rfl,rfl,rfl,.inl ⟨rfl,rfl⟩,.inr ⟨g,_,(by decide:0<4),rfl,rfl,?_⟩⟩;refine cf.of_items (bD v) bW _ 0 (by rw [List.length_map,hR];rfl) rfl fun j j1 j2 j3=>?_;have hj:j<R.length:=by rw [hR];exact j1
  obtain ⟨e1,e2⟩:=hn j hj;refine ⟨R[j].cs,?_,?_⟩
  ·have:=hat j hj;rw [e1] at this;rw [Nat.zero_add];unfold bo at this;rw [List.getD_eq_getElem?_getD,List.getElem?_eq_getElem j3] at this;exact this
  ·have:=ho5.rd _ (List.getElem_mem hj);rw [e2,List.getD_eq_getElem?_getD,List.getElem?_eq_getElem j1] at this;simp only [List.getElem_map];exact this
 refine ⟨.inl ⟨hg,g,c,rfl,by omega,g2,fun k hk=>?_,RdF.toA _ _ _ (fun x hx=>⟨Nat.zero_le _,?_⟩) hrf⟩,hb5⟩
 ·have hk':k<R.length:=by omega
  have:=(hat k hk').there;obtain ⟨_,_,_,_,_,_,e, -⟩:=(ho5.rd _ (List.getElem_mem hk')).cells;rw [e] at this;exact this
 ·rcases List.mem_cons.1 hx with rfl | hx
  ·exact g2
  ·obtain ⟨F,hF,hxF⟩:=List.mem_flatten.1 hx;obtain ⟨r,hr,rfl⟩:=List.mem_map.1 hF;exact (ho5.sub r hr x hxF).2.1
theorem qcm {v:V} {W:World} {e:Ending} {W':World} (h:qdq v W e W') :
  ∃ (zk zn:Int) (zs:ByteArray) (zA:Option Addr) (zl zc:Nat) (zB:Option Addr) (zq zd:Nat) (G:List Nat),e = .returned (.agg #[.int .i64 zk,.int .i64 zn,.string zs,.slice zA zl zc,.slice zB zq zd])∧RdF W' v [.int .i64 zk,.int .i64 zn,.string zs,.slice zA zl zc,.slice zB zq zd] G∧(∀ x∈G,W.heap.size≤x∧x<W'.heap.size)∧Below W.heap.size W W':=by
 obtain ⟨⟨cs,G,rfl,hr, -,hG⟩,hb⟩:=h;obtain ⟨A,c,A2,c2,_,_,rfl, -⟩:=id hr.cells;exact ⟨_,_,_,A,_,c,A2,_,c2,G,rfl,hr,hG,hb⟩
