/- Merged: TrI TrJ TrK TrL. -/
import Derived.Test.YtofelafamfckiaaGreatDoorTt30
import Derived.Maps.AppendAt
import Derived.Lib.Walk
import Derived.Lib.SliceRun
set_option maxRecDepth 100000
set_option maxHeartbeats 2000000
namespace Go.Proofs.YtofelafamfckiaaGreatDoor
namespace Tr
open Go.Proofs Go.RowKit Go.Lib Utf Sc Re
theorem qck:(Tryz.prog.info? 25).map (fun i=>(i.zero,i.size,i.bytes))=some (some (.agg #[.int .i64 0,.int .i64 0,.string ByteArray.empty,.slice none 0 0,.slice none 0 0]),5,80):=by kernel_rfl
theorem qcy:(Tryz.prog.info? 37).map (fun i=>(i.zero,i.size,i.bytes))=some (some (.agg #[.string ByteArray.empty,.int .i64 0,.int .i64 0,.string ByteArray.empty,.slice none 0 0,.slice none 0 0]),6,96):=by kernel_rfl
theorem ct {w:World} {base E s n:Nat} {v:Value} {xs:List Value} (h:w.ownsRow base E s v n xs):∃ A c,v = .slice A n c:=by
 obtain ⟨_,h⟩:=h;rcases h with ⟨rfl,rfl⟩ | ⟨g,cap,cur,rfl,_⟩
 ·exact ⟨none,0,rfl⟩
 ·exact ⟨_,_,rfl⟩
theorem qfK (A:Option Addr) (n c:Nat) (news:List Value) (w:World) (hl:news.length=n*5) (hbig:n*80≤140737488355328)
  (hc:0<n→∃ g o,A=some ⟨g,o,none⟩∧∀ j u,news[j]? = some u→w.cell? ⟨g,o+j,none⟩=some u) (h1:∀ u∈news,u.oneCell'=true) :
  Calls Tryz.prog 44 #[.slice A n c] w fun e w'=>∃ A' c',e = .returned (.slice A' n c')∧w'.ownsRow w.heap.size 25 5 (.slice A' n c') n news∧Below w.heap.size w w':=by
 obtain ⟨i0,hi,hz0,hz1,hz2⟩:=info_parts qck;have q22:∀ (w:World) (a:Option Addr) (n c n' c':Nat),(binOp .eql 22 (.slice a n c) (.slice none n' c')).run Tryz.prog w = .ok (.bool a.isNone) w:=fun w a n c n' c'=>Lib.run_eql_slice_nil w _ _ a n c n' c' Tryz.underlying22;cases A with
 | none=>
  have hn:n=0:=by
   rcases Nat.eq_zero_or_pos n with h | h
   ·exact h
   ·obtain ⟨g,o,e,_⟩:=hc h;cases e
  subst hn;have hnw:news=[]:=List.eq_nil_of_length_eq_zero (by omega);subst hnw;clear hc hl;go_enter Tryz.func44,Tryz.ntmps44;go_wp2;go_ret;exact ⟨none,0,rfl,World.ownsRow_nil _ _ _ _,Below.refl _ _⟩
 | some ad=>
  have HC:Aside _:=hc;clear hc;go_enter Tryz.func44,Tryz.ntmps44;go_wp2_with (at_builtin;refine wpList_append_own _ rfl _ _ 22 rfl w.heap.size 25 i0 _ 5 80 Tryz.underlying22 hi hz0 hz1 hz2 rfl (by decide) _ _ _ rfl (World.ownsRow_made w #[] 0 (Nat.le_refl _) (Nat.zero_le _) (by simp)) ad n c news rfl ?qc1 ?qc2 ?qc3 ?qc4 ?qc5 ?qc6 ?_)
  case qc1=>exact hl
  case qc2=>
   intro j u hj;have hn:0<n:=by
    rcases Nat.eq_zero_or_pos n with h | h
    ·subst h;have hnw:news=[]:=List.eq_nil_of_length_eq_zero (by omega);rw [hnw] at hj;simp at hj
    ·exact h
   obtain ⟨g,o,e,hx⟩:=HC.out hn;injection e with e
   subst e;rw [Addr.add_lit];exact Lib.cell?_alloc_some _ (hx j u hj)
  case qc3=>exact h1
  case qc4=>unfold maxLen;omega
  case qc5=>omega
  case qc6=>simp
  intro v' w1 hown hgrow hnil;have hown':w1.ownsRow w.heap.size 25 5 v' n news:=by simpa using hown
  obtain ⟨A',c',rfl⟩:=ct hown';have HO:=zh hown';have HG:=zh hgrow;clear hown hown' hgrow hnil;go_wp2;go_ret;exact ⟨A',c',rfl,HO.out,((Below.refl _ w).alloc (Nat.le_refl _) _).grown HG.out (by simp) (by intro k hk;simp [Value.ownBlock] at hk;omega)⟩
theorem qf7 (A:Option Addr) (n c:Nat) (news:List Value) (w:World) (hl:news.length=n*6) (hbig:n*96≤140737488355328)
  (hc:0<n→∃ g o,A=some ⟨g,o,none⟩∧∀ j u,news[j]? = some u→w.cell? ⟨g,o+j,none⟩=some u) (h1:∀ u∈news,u.oneCell'=true) :
  Calls Tryz.prog 45 #[.slice A n c] w fun e w'=>∃ A' c',e = .returned (.slice A' n c')∧w'.ownsRow w.heap.size 37 6 (.slice A' n c') n news∧Below w.heap.size w w':=by
 obtain ⟨i0,hi,hz0,hz1,hz2⟩:=info_parts qcy;have q22:∀ (w:World) (a:Option Addr) (n c n' c':Nat),(binOp .eql 23 (.slice a n c) (.slice none n' c')).run Tryz.prog w = .ok (.bool a.isNone) w:=fun w a n c n' c'=>Lib.run_eql_slice_nil w _ _ a n c n' c' Tryz.underlying23;cases A with
 | none=>
  have hn:n=0:=by
   rcases Nat.eq_zero_or_pos n with h | h
   ·exact h
   ·obtain ⟨g,o,e,_⟩:=hc h;cases e
  subst hn;have hnw:news=[]:=List.eq_nil_of_length_eq_zero (by omega);subst hnw;clear hc hl;go_enter Tryz.func45,Tryz.ntmps45;go_wp2;go_ret;exact ⟨none,0,rfl,World.ownsRow_nil _ _ _ _,Below.refl _ _⟩
 | some ad=>
  have HC:Aside _:=hc;clear hc;go_enter Tryz.func45,Tryz.ntmps45;go_wp2_with (at_builtin;refine wpList_append_own _ rfl _ _ 23 rfl w.heap.size 37 i0 _ 6 96 Tryz.underlying23 hi hz0 hz1 hz2 rfl (by decide) _ _ _ rfl (World.ownsRow_made w #[] 0 (Nat.le_refl _) (Nat.zero_le _) (by simp)) ad n c news rfl ?qc1 ?qc2 ?qc3 ?qc4 ?qc5 ?qc6 ?_)
  case qc1=>exact hl
  case qc2=>
   intro j u hj;have hn:0<n:=by
    rcases Nat.eq_zero_or_pos n with h | h
    ·subst h;have hnw:news=[]:=List.eq_nil_of_length_eq_zero (by omega);rw [hnw] at hj;simp at hj
    ·exact h
   obtain ⟨g,o,e,hx⟩:=HC.out hn;injection e with e
   subst e;rw [Addr.add_lit];exact Lib.cell?_alloc_some _ (hx j u hj)
  case qc3=>exact h1
  case qc4=>unfold maxLen;omega
  case qc5=>omega
  case qc6=>simp
  intro v' w1 hown hgrow hnil;have hown':w1.ownsRow w.heap.size 37 6 v' n news:=by simpa using hown
  obtain ⟨A',c',rfl⟩:=ct hown';have HO:=zh hown';have HG:=zh hgrow;clear hown hown' hgrow hnil;go_wp2;go_ret;exact ⟨A',c',rfl,HO.out,((Below.refl _ w).alloc (Nat.le_refl _) _).grown HG.out (by simp) (by intro k hk;simp [Value.ownBlock] at hk;omega)⟩
def az (w:World) (g o:Nat) (cs:List Value):Prop:=∀ j u,cs[j]? = some u→w.cell? ⟨g,o+j,none⟩=some u∧w.frozen? ⟨g,o+j,none⟩=false
theorem az.keep {w w':World} {g o:Nat} {cs:List Value} (h:az w g o cs) (hk:w'.heap[g]? = w.heap[g]?):az w' g o cs:=fun j u hu=>
 ⟨(cN (p:=⟨g,o+j,none⟩) hk).trans (h j u hu).1,by have:=(h j u hu).2;unfold World.frozen? at *;rw [show w'.heap[(⟨g,o+j,none⟩:Addr).block]? = _ from hk];exact this⟩
mutual
/-- In w the five cells cs read as v; its blocks are F, in their order -/
def RdF (w:World):V→List Value→List Nat→Prop
 | .mk k n s l ns ms,cs,F=>∃ (A:Option Addr) (c:Nat) (A2:Option Addr) (c2:Nat) (FL FM:List Nat),cs=[.int .i64 k,.int .i64 n,.string (ae s),.slice A l.length (l.length+c),.slice A2 ms.length (ms.length+c2)]∧ns.length=ms.length∧F=FL++FM∧
   ((l.length=0∧FL=[])∨∃ g T,0<l.length∧A=some ⟨g,0,none⟩∧FL=g::T∧cj w g 0 l T)∧((ms.length=0∧FM=[])∨∃ g T,0<ms.length∧A2=some ⟨g,0,none⟩∧FM=g::T∧cf w g 0 ns ms T)
def cj (w:World):Nat→Nat→List V→List Nat→Prop
 | _,_,[],F=>F=[]
 | g,i,v::r,F=>∃ cs F1 F2,F=F1++F2∧az w g (i*5) cs∧RdF w v cs F1∧cj w g (i+1) r F2
def cf (w:World):Nat→Nat→List (List UInt8)→List V→List Nat→Prop
 | _,_,_,[],F=>F=[]
 | g,i,ns,v::r,F=>∃ nm ns' cs F1 F2,ns=nm::ns'∧F=F1++F2∧az w g (i*6) (.string (ae nm)::cs)∧RdF w v cs F1∧cf w g (i+1) ns' r F2
end
theorem RdF.cells {w:World} {v:V} {cs:List Value} {F:List Nat} (h:RdF w v cs F):∃ (A:Option Addr) (c:Nat) (A2:Option Addr) (c2:Nat) (FL FM:List Nat),cs=[.int .i64 v.k,.int .i64 v.n,.string (ae v.s),.slice A v.l.length c,.slice A2 v.ms.length c2]∧v.ns.length=v.ms.length∧F=FL++FM∧
   ((v.l.length=0∧FL=[])∨∃ g T,0<v.l.length∧A=some ⟨g,0,none⟩∧FL=g::T∧cj w g 0 v.l T)∧((v.ms.length=0∧FM=[])∨∃ g T,0<v.ms.length∧A2=some ⟨g,0,none⟩∧FM=g::T∧cf w g 0 v.ns v.ms T):=by
 obtain ⟨k,n,s,l,ns,ms⟩:=v;rw [RdF] at h;obtain ⟨A,c,A2,c2,h⟩:=h;exact ⟨A,_,A2,_,h⟩
theorem RdF.of_cells {w:World} {v:V} {cs:List Value} {F:List Nat} (h:∃ (A:Option Addr) (c:Nat) (A2:Option Addr) (c2:Nat) (FL FM:List Nat),v.l.length≤c∧v.ms.length≤c2∧cs=[.int .i64 v.k,.int .i64 v.n,.string (ae v.s),.slice A v.l.length c,.slice A2 v.ms.length c2]∧v.ns.length=v.ms.length∧F=FL++FM∧
   ((v.l.length=0∧FL=[])∨∃ g T,0<v.l.length∧A=some ⟨g,0,none⟩∧FL=g::T∧cj w g 0 v.l T)∧((v.ms.length=0∧FM=[])∨∃ g T,0<v.ms.length∧A2=some ⟨g,0,none⟩∧FM=g::T∧cf w g 0 v.ns v.ms T)):RdF w v cs F:=by
 obtain ⟨k,n,s,l,ns,ms⟩:=v;rw [RdF];obtain ⟨A,c,A2,c2,FL,FM,h1,h2,h3,h⟩:=h;refine ⟨A,c-l.length,A2,c2-ms.length,FL,FM,?_,h⟩;rw [show l.length+(c-l.length)=c from Nat.add_sub_of_le h1,show ms.length+(c2-ms.length)=c2 from Nat.add_sub_of_le h2];exact h3
section
variable {w w':World}
mutual
theorem RdF.keep:∀ (v:V) (cs:List Value) (F:List Nat),(∀ k∈F,w'.heap[k]? = w.heap[k]?)→RdF w v cs F→RdF w' v cs F
 | .mk k n s l ns ms,cs,F,hk,h=>by
  rw [RdF] at h ⊢;obtain ⟨A,c,A2,c2,FL,FM,e1,e2,rfl,h1,h2⟩:=h;refine ⟨A,c,A2,c2,FL,FM,e1,e2,rfl,?_,?_⟩
  ·rcases h1 with h1 | ⟨g,T,p1,p2,rfl,p4⟩
   ·exact .inl h1
   ·exact .inr ⟨g,T,p1,p2,rfl,cj.keep l g 0 T (hk g (by simp)) (fun k hh=>hk k (by simp [hh])) p4⟩
  ·rcases h2 with h2 | ⟨g,T,p1,p2,rfl,p4⟩
   ·exact .inl h2
   ·exact .inr ⟨g,T,p1,p2,rfl,cf.keep ms g 0 ns T (hk g (by simp)) (fun k hh=>hk k (by simp [hh])) p4⟩
theorem cj.keep:∀ (l:List V) (g i:Nat) (F:List Nat),w'.heap[g]? = w.heap[g]?→(∀ k∈F,w'.heap[k]? = w.heap[k]?)→cj w g i l F→cj w' g i l F
 | [],g,i,F,_,_,h=>by rw [cj] at h ⊢;exact h
 | v::r,g,i,F,hg,hk,h=>by
  rw [cj] at h ⊢;obtain ⟨cs,F1,F2,rfl,h1,h2,h3⟩:=h;exact ⟨cs,F1,F2,rfl,h1.keep hg,RdF.keep v cs F1 (fun k hh=>hk k (by simp [hh])) h2,cj.keep r g (i+1) F2 hg (fun k hh=>hk k (by simp [hh])) h3⟩
theorem cf.keep:∀ (ms:List V) (g i:Nat) (ns:List (List UInt8)) (F:List Nat),w'.heap[g]? = w.heap[g]?→(∀ k∈F,w'.heap[k]? = w.heap[k]?)→cf w g i ns ms F→cf w' g i ns ms F
 | [],g,i,ns,F,_,_,h=>by rw [cf] at h ⊢;exact h
 | v::r,g,i,ns,F,hg,hk,h=>by
  rw [cf] at h ⊢;obtain ⟨nm,ns',cs,F1,F2,e,rfl,h1,h2,h3⟩:=h;exact ⟨nm,ns',cs,F1,F2,e,rfl,h1.keep hg,RdF.keep v cs F1 (fun k hh=>hk k (by simp [hh])) h2,cf.keep r g (i+1) ns' F2 hg (fun k hh=>hk k (by simp [hh])) h3⟩
end
variable {lo hi:Nat}
mutual
/-- .. as it reads in a caller's memory -/
theorem RdF.toA:∀ (v:V) (cs:List Value) (F:List Nat),(∀ k∈F,lo≤k∧k<hi)→RdF w v cs F→RdA w lo hi v cs
 | .mk k n s l ns ms,cs,F,hk,h=>by
  rw [RdF] at h;rw [RdA];obtain ⟨A,c,A2,c2,FL,FM,e1,e2,rfl,h1,h2⟩:=h;refine ⟨A,c,A2,c2,e1,e2,fun h0=>?_,fun h0=>?_⟩
  ·rcases h1 with h1 | ⟨g,T,p1,p2,rfl,p4⟩
   ·omega
   ·exact ⟨g,0,p2,(hk g (by simp)).1,(hk g (by simp)).2,by have:=cj.toA l g 0 T (fun k hh=>hk k (by simp [hh])) p4;simpa using this⟩
  ·rcases h2 with h2 | ⟨g,T,p1,p2,rfl,p4⟩
   ·omega
   ·exact ⟨g,0,p2,(hk g (by simp)).1,(hk g (by simp)).2,by have:=cf.toA ms g 0 ns T (fun k hh=>hk k (by simp [hh])) p4;simpa using this⟩
theorem cj.toA:∀ (l:List V) (g i:Nat) (F:List Nat),(∀ k∈F,lo≤k∧k<hi)→cj w g i l F→aN w lo hi g (i*5) l
 | [],g,i,F,_,_=>by rw [aN];trivial
 | v::r,g,i,F,hk,h=>by
  rw [cj] at h;rw [aN];obtain ⟨cs,F1,F2,rfl,h1,h2,h3⟩:=h;refine ⟨⟨cs,fun j u hu=>(h1 j u hu).1,RdF.toA v cs F1 (fun k hh=>hk k (by simp [hh])) h2⟩,?_⟩;have:=cj.toA r g (i+1) F2 (fun k hh=>hk k (by simp [hh])) h3;rwa [show (i+1)*5=i*5+5 by omega] at this
theorem cf.toA:∀ (ms:List V) (g i:Nat) (ns:List (List UInt8)) (F:List Nat),(∀ k∈F,lo≤k∧k<hi)→cf w g i ns ms F→aL w lo hi g (i*6) ns ms
 | [],g,i,ns,F,_,_=>by rw [aL];trivial
 | v::r,g,i,ns,F,hk,h=>by
  rw [cf] at h;rw [aL];obtain ⟨nm,ns',cs,F1,F2,e,rfl,h1,h2,h3⟩:=h;refine ⟨nm,ns',e,(h1 0 _ rfl).1,⟨cs,fun j u hu=>by have:=(h1 (j+1) u (by simpa using hu)).1;rwa [show i*6+(j+1)=i*6+1+j by omega] at this,RdF.toA v cs F1 (fun k hh=>hk k (by simp [hh])) h2⟩,?_⟩;have:=cf.toA r g (i+1) ns' F2 (fun k hh=>hk k (by simp [hh])) h3;rwa [show (i+1)*6=i*6+6 by omega] at this
end
theorem cj.of_items {g:Nat}:∀ (l:List V) (Fs:List (List Nat)) (i:Nat),Fs.length=l.length→(∀ j (h1:j<l.length) (h2:j<Fs.length),∃ cs,az w g ((i+j)*5) cs∧RdF w l[j] cs Fs[j])→cj w g i l Fs.flatten
 | [],Fs,i,hl,_=>by rw [List.eq_nil_of_length_eq_zero hl,cj];rfl
 | v::r,Fs,i,hl,h=>by
  cases Fs with
  | nil=>simp at hl
  | cons F Fs=>
   obtain ⟨cs,h1,h2⟩:=h 0 (by simp) (by simp);rw [cj];refine ⟨cs,F,Fs.flatten,by simp,by simpa using h1,h2,cj.of_items r Fs (i+1) (by simpa using hl) fun j j1 j2=>?_⟩;have:=h (j+1) (by simpa using j1) (by simpa using j2);rw [show i+1+j=i+(j+1) by omega];exact this
theorem cf.of_items {g:Nat}:∀ (ms:List V) (ns:List (List UInt8)) (Fs:List (List Nat)) (i:Nat),Fs.length=ms.length→ns.length=ms.length→(∀ j (h1:j<ms.length) (h2:j<Fs.length) (h3:j<ns.length),∃ cs,az w g ((i+j)*6) (.string (ae ns[j])::cs)∧RdF w ms[j] cs Fs[j])→cf w g i ns ms Fs.flatten
 | [],ns,Fs,i,hl,_,_=>by rw [List.eq_nil_of_length_eq_zero hl,cf];rfl
 | v::r,ns,Fs,i,hl,hn,h=>by
  cases Fs with
  | nil=>simp at hl
  | cons F Fs=>
   cases ns with
   | nil=>simp at hn
   | cons nm ns=>
    obtain ⟨cs,h1,h2⟩:=h 0 (by simp) (by simp) (by simp);rw [cf];refine ⟨nm,ns,cs,F,Fs.flatten,rfl,by simp,by simpa using h1,h2,cf.of_items r ns Fs (i+1) (by simpa using hl) (by simpa using hn) fun j j1 j2 j3=>?_⟩;have:=h (j+1) (by simpa using j1) (by simpa using j2) (by simpa using j3);rw [show i+1+j=i+(j+1) by omega];exact this
end
end Tr
namespace Tr
open Go.Proofs Go.RowKit Go.Lib Utf Sc Re
theorem qaD (s:Nat):∀ rows:List (List Value),(∀ r∈rows,r.length=s)→rows.flatten.length=rows.length*s
 | [],_=>by simp
 | r::t,h=>by
  rw [List.flatten_cons,List.length_append,h r (by simp),qaD s t (fun x hx=>h x (by simp [hx])),List.length_cons,Nat.succ_mul];omega
theorem qcw (s:Nat):∀ (rows:List (List Value)),(∀ r∈rows,r.length=s)→∀ k t (hk:k<rows.length),t<s→rows.flatten[k*s+t]? = rows[k][t]?
 | [],_,k,_,hk,_=>by simp at hk
 | r::rest,h,k,t,hk,ht=>by
  have hr:=h r (by simp);rw [List.flatten_cons];cases k with
  | zero=>rw [Nat.zero_mul,Nat.zero_add,List.getElem?_append_left (by omega)];rfl
  | succ k=>
   have e:(k+1)*s+t=r.length+(k*s+t):=by rw [Nat.succ_mul,hr];omega
   rw [e,List.getElem?_append_right (by omega),Nat.add_sub_cancel_left,qcw s rest (fun x hx=>h x (by simp [hx])) k t (by simpa using hk) ht];rfl
def qf4 (w:World) (g o s:Nat) (rows:List (List Value)):Prop:=(∀ r∈rows,r.length=s)∧∀ k (h:k<rows.length) t u,rows[k][t]? = some u→w.cell? ⟨g,o+k*s+t,none⟩=some u
theorem qb4 {w:World} {g o s:Nat} {rows:List (List Value)} (hs:0<s) (h:qf4 w g o s rows):∀ j u,rows.flatten[j]? = some u→w.cell? ⟨g,o+j,none⟩=some u:=fun j u hu=>by
 have hj:j<rows.length*s:=by
  have:=(List.getElem?_eq_some_iff.1 hu).1;rwa [qaD s rows h.1] at this
 have hk:j / s<rows.length:=Nat.div_lt_of_lt_mul (by rwa [Nat.mul_comm] at hj);have ht:j % s<s:=Nat.mod_lt _ hs;have e:j=j / s*s+j % s:=by rw [Nat.mul_comm];exact (Nat.div_add_mod j s).symm
 rw [e,qcw s rows h.1 _ _ hk ht] at hu;have:=h.2 _ hk _ _ hu;rw [e,←Nat.add_assoc];exact this
theorem qdd {s:Nat} {rows:List (List Value)} (h:∀ r∈rows,∀ u∈r,u.oneCell'=true):∀ u∈rows.flatten,u.oneCell'=true:=fun u hu=>by
 obtain ⟨r,h1,h2⟩:=List.mem_flatten.1 hu;have:=s;exact h r h1 u h2
theorem qbP {w:World} {lo hi:Nat} {v:V} {cs:List Value} (h:RdA w lo hi v cs):cs.length=5∧∀ u∈cs,u.oneCell'=true:=by
 obtain ⟨A,c,A2,c2,rfl,_⟩:=h.cells;refine ⟨rfl,fun u hu=>?_⟩;simp only [List.mem_cons,List.not_mem_nil,or_false] at hu;rcases hu with rfl | rfl | rfl | rfl | rfl <;> rfl
theorem qk8 {w:World} {lo hi g o:Nat} {l:List V} (h:aN w lo hi g o l):∃ rows:List (List Value),rows.length=l.length∧qf4 w g o 5 rows∧(∀ r∈rows,∀ u∈r,u.oneCell'=true)∧∀ k (h1:k<l.length) (h2:k<rows.length),RdA w lo hi l[k] rows[k]:=by
 induction l generalizing o with
 | nil=>exact ⟨[],rfl,⟨(fun r h=>by cases h),(fun k h=>by simp at h)⟩,(fun r h=>by cases h),(fun k h=>by simp at h)⟩
 | cons v r ih=>
  rw [aN] at h;obtain ⟨⟨cs,hc,hv⟩,hr⟩:=h;obtain ⟨rows,e1,⟨e2,e3⟩,e4,e5⟩:=ih hr;obtain ⟨o1,o2⟩:=qbP hv;refine ⟨cs::rows,by simp [e1],⟨fun x hx=>?_,fun k hk t u hu=>?_⟩,fun x hx=>?_,fun k h1 h2=>?_⟩
  ·rcases List.mem_cons.1 hx with rfl | hx
   ·exact o1
   ·exact e2 x hx
  ·cases k with
   | zero=>have:=hc t u (by simpa using hu);simpa using this
   | succ k=>
    have:=e3 k (by simpa using hk) t u (by simpa using hu);rw [show o+(k+1)*5+t=o+5+k*5+t by omega];exact this
  ·rcases List.mem_cons.1 hx with rfl | hx
   ·exact o2
   ·exact e4 x hx
  ·cases k with
   | zero=>exact hv
   | succ k=>exact e5 k (by simpa using h1) (by simpa using h2)
theorem qmB {w:World} {lo hi g o:Nat} {ms:List V} {ns:List (List UInt8)} (hn:ns.length=ms.length) (h:aL w lo hi g o ns ms):∃ rows:List (List Value),rows.length=ms.length∧qf4 w g o 6 rows∧(∀ r∈rows,∀ u∈r,u.oneCell'=true)∧∀ k (h1:k<ms.length) (h2:k<rows.length) (h3:k<ns.length),∃ cs,rows[k] = .string (ae ns[k])::cs∧RdA w lo hi ms[k] cs:=by
 induction ms generalizing o ns with
 | nil=>exact ⟨[],rfl,⟨(fun r h=>by cases h),(fun k h=>by simp at h)⟩,(fun r h=>by cases h),(fun k h=>by simp at h)⟩
 | cons v r ih=>
  rw [aL] at h;obtain ⟨nm,ns',rfl,h0,⟨cs,hc,hv⟩,hr⟩:=h;obtain ⟨rows,e1,⟨e2,e3⟩,e4,e5⟩:=ih (by simpa using hn) hr;obtain ⟨o1,o2⟩:=qbP hv;refine ⟨(.string (ae nm)::cs)::rows,by simp [e1],⟨fun x hx=>?_,fun k hk t u hu=>?_⟩,fun x hx=>?_,fun k h1 h2 h3=>?_⟩
  ·rcases List.mem_cons.1 hx with rfl | hx
   ·simp [o1]
   ·exact e2 x hx
  ·cases k with
   | zero=>
    cases t with
    | zero=>simp at hu;subst hu;simpa using h0
    | succ t=>
     have:=hc t u (by simpa using hu);rw [show o+0*6+(t+1)=o+1+t by omega];exact this
   | succ k=>
    have:=e3 k (by simpa using hk) t u (by simpa using hu);rw [show o+(k+1)*6+t=o+6+k*6+t by omega];exact this
  ·rcases List.mem_cons.1 hx with rfl | hx
   ·intro u hu;rcases List.mem_cons.1 hu with rfl | hu
    ·rfl
    ·exact o2 u hu
   ·exact e4 x hx
  ·cases k with
   | zero=>exact ⟨cs,rfl,hv⟩
   | succ k=>exact e5 k (by simpa using h1) (by simpa using h2) (by simpa using h3)
theorem qdY {w:World} {base T s n:Nat} {A:Option Addr} {c:Nat} {xs:List Value} (h:w.ownsRow base T s (.slice A n c) n xs) (hn:0<n):∃ g,A=some ⟨g,0,none⟩∧base≤g∧g<w.heap.size∧az w g 0 xs:=by
 obtain ⟨hl,h⟩:=h;rcases h with ⟨e,rfl⟩ | ⟨g,cap,cur,e,hb,hh,hnc,_,hcur,htake⟩
 ·omega
 ·injection e with e1 e2 e3
  refine ⟨g,e1,hb,(Array.getElem?_eq_some_iff.1 hh).1,fun j u hu=>?_⟩;rw [←htake] at hu;have hcj:cur[j]? = some u:=by
   rw [List.getElem?_take] at hu;split at hu
   ·simpa using hu
   ·cases hu
  rw [Nat.zero_add];exact ⟨by simp [World.cell?,hh,hcj],by simp [World.frozen?,hh]⟩
theorem qfQ {w:World} {base T s n:Nat} {A:Option Addr} {c:Nat} {xs:List Value} (h:w.ownsRow base T s (.slice A n c) n xs):n≤c:=by
 rcases h.2 with ⟨h1,h2⟩ | ⟨b,cap,cur,e,_,_,h3,_⟩
 ·omega
 ·injection e with _ _ h5;omega
theorem az.sub {w:World} {g o s:Nat} {rows:List (List Value)} (hr:∀ r∈rows,r.length=s) (h:az w g o rows.flatten) (k:Nat) (hk:k<rows.length):az w g (o+k*s) rows[k]:=fun t u hu=>by
 have ht:t<s:=by
  have:=(List.getElem?_eq_some_iff.1 hu).1;rwa [hr _ (List.getElem_mem hk)] at this
 have:=h (k*s+t) u (by rw [qcw s rows hr k t hk ht];exact hu);rw [Nat.add_assoc];exact this
def qa2 (w:World) (g o:Nat) (v0 v1 v2 v3 v4:Value):World:=((((w.setCell ⟨g,o,none⟩ v0).setCell ⟨g,o+1,none⟩ v1).setCell ⟨g,o+2,none⟩ v2).setCell ⟨g,o+3,none⟩ v3).setCell ⟨g,o+4,none⟩ v4
theorem cT {w:World} {g o o':Nat} (v:Value) (h:o≠o'):(w.setCell ⟨g,o,none⟩ v).cell? ⟨g,o',none⟩=w.cell? ⟨g,o',none⟩:=World.cell?_setCell_other w _ _ v (fun e=>h (congrArg Addr.off e))
section
variable {w:World} {g o:Nat} {v0 v1 v2 v3 v4:Value}
theorem qjq {o':Nat} (h:o'<o∨o+5≤o'):(qa2 w g o v0 v1 v2 v3 v4).cell? ⟨g,o',none⟩=w.cell? ⟨g,o',none⟩:=by
 unfold qa2;rw [cT _ (by omega),cT _ (by omega),cT _ (by omega),cT _ (by omega),cT _ (by omega)]
theorem qca (p:Addr):(qa2 w g o v0 v1 v2 v3 v4).frozen? p=w.frozen? p:=by
 unfold qa2;rw [World.frozen?_setCell,World.frozen?_setCell,World.frozen?_setCell,World.frozen?_setCell,World.frozen?_setCell]
theorem br {k:Nat} (hk:k≠g):(qa2 w g o v0 v1 v2 v3 v4).heap[k]? = w.heap[k]?:=by
 unfold qa2;rw [Below.heap_setCell _ _ _ k hk,Below.heap_setCell _ _ _ k hk,Below.heap_setCell _ _ _ k hk,Below.heap_setCell _ _ _ k hk,Below.heap_setCell _ _ _ k hk]
theorem qdL:(qa2 w g o v0 v1 v2 v3 v4).heap.size=w.heap.size:=by simp [qa2]
theorem cY (w:World) (g o:Nat) (v:Value):w.grownBy (w.setCell ⟨g,o,none⟩ v) (some g):=⟨rfl,rfl,rfl,by simp,fun k _ hk=>Below.heap_setCell _ _ _ k (fun e=>hk (by rw [e]))⟩
theorem cO {w w1 w2:World} {pb:Option Nat} (h1:w.grownBy w1 pb) (h2:w1.grownBy w2 pb):w.grownBy w2 pb:=
 ⟨h2.os.trans h1.os,h2.tape.trans h1.tape,h2.output.trans h1.output,Nat.le_trans h1.size h2.size,fun k hk hne=>(h2.block k (Nat.lt_of_lt_of_le hk h1.size) hne).trans (h1.block k hk hne)⟩
theorem qgb:w.grownBy (qa2 w g o v0 v1 v2 v3 v4) (some g):=
 cO (cO (cO (cO (cY w g o v0) (cY _ g _ v1)) (cY _ g _ v2)) (cY _ g _ v3)) (cY _ g _ v4)
theorem qff {w w':World} {pb B:Nat} (h:w.grownBy w' (some pb)) (hB:B≤pb) (hs:B≤w.heap.size):Below B w w':=⟨h.os,h.tape,h.output,h.size,fun k hk=>h.block k (by omega) (fun e=>by injection e with e;omega)⟩
theorem qjT {cs:List Value} (hl:cs.length=5) (h:az w g o cs):az (qa2 w g o v0 v1 v2 v3 v4) g o [v0,v1,v2,v3,v4]:=by
 have f:=fun j (hj:j<5)=>(h j cs[j] (List.getElem?_eq_getElem (by omega)))
 have s:∀ j,j<5→(w.cell? ⟨g,o+j,none⟩).isSome=true:=fun j hj=>by rw [(f j hj).1];rfl
 have S:∀ (W:World) (p:Nat) (v:Value),(W.cell? ⟨g,p,none⟩).isSome=true→(W.setCell ⟨g,p,none⟩ v).cell? ⟨g,p,none⟩=some v:=fun W p v hs=>World.cell?_setCell_same' W ⟨g,p,none⟩ v hs;have fz:=fun j (hj:j<5)=>(qca (w:=w) (g:=g) (o:=o) (v0:=v0) (v1:=v1) (v2:=v2) (v3:=v3) (v4:=v4) ⟨g,o+j,none⟩).trans (f j hj).2;obtain ⟨W1,e1⟩:∃ W1,W1=w.setCell ⟨g,o,none⟩ v0:=⟨_,rfl⟩
 have a1:W1.cell? ⟨g,o,none⟩=some v0:=by rw [e1];exact S w o v0 (s 0 (by omega))
 have r1:∀ q,q≠o→W1.cell? ⟨g,q,none⟩=w.cell? ⟨g,q,none⟩:=fun q hq=>by rw [e1];exact cT v0 (Ne.symm hq)
 obtain ⟨W2,e2⟩:∃ W2,W2=W1.setCell ⟨g,o+1,none⟩ v1:=⟨_,rfl⟩
 have a2:W2.cell? ⟨g,o+1,none⟩=some v1:=by rw [e2];exact S W1 (o+1) v1 (by rw [r1 _ (by omega)];exact s 1 (by omega))
 have r2:∀ q,q≠o+1→W2.cell? ⟨g,q,none⟩=W1.cell? ⟨g,q,none⟩:=fun q hq=>by rw [e2];exact cT v1 (Ne.symm hq)
 obtain ⟨W3,e3⟩:∃ W3,W3=W2.setCell ⟨g,o+2,none⟩ v2:=⟨_,rfl⟩
 have a3:W3.cell? ⟨g,o+2,none⟩=some v2:=by rw [e3];exact S W2 (o+2) v2 (by rw [r2 _ (by omega)];rw [r1 _ (by omega)];exact s 2 (by omega))
 have r3:∀ q,q≠o+2→W3.cell? ⟨g,q,none⟩=W2.cell? ⟨g,q,none⟩:=fun q hq=>by rw [e3];exact cT v2 (Ne.symm hq)
 obtain ⟨W4,e4⟩:∃ W4,W4=W3.setCell ⟨g,o+3,none⟩ v3:=⟨_,rfl⟩
 have a4:W4.cell? ⟨g,o+3,none⟩=some v3:=by rw [e4];exact S W3 (o+3) v3 (by rw [r3 _ (by omega)];rw [r2 _ (by omega)];rw [r1 _ (by omega)];exact s 3 (by omega))
 have r4:∀ q,q≠o+3→W4.cell? ⟨g,q,none⟩=W3.cell? ⟨g,q,none⟩:=fun q hq=>by rw [e4];exact cT v3 (Ne.symm hq)
 obtain ⟨W5,e5⟩:∃ W5,W5=W4.setCell ⟨g,o+4,none⟩ v4:=⟨_,rfl⟩
 have a5:W5.cell? ⟨g,o+4,none⟩=some v4:=by rw [e5];exact S W4 (o+4) v4 (by rw [r4 _ (by omega)];rw [r3 _ (by omega)];rw [r2 _ (by omega)];rw [r1 _ (by omega)];exact s 4 (by omega))
 have r5:∀ q,q≠o+4→W5.cell? ⟨g,q,none⟩=W4.cell? ⟨g,q,none⟩:=fun q hq=>by rw [e5];exact cT v4 (Ne.symm hq)
 have hst:qa2 w g o v0 v1 v2 v3 v4=W5:=by unfold qa2;rw [←e1,←e2,←e3,←e4,←e5]
 rw [hst] at fz ⊢;clear e1 e2 e3 e4 e5 hst;intro j u hu;have hj:j<5:=by have:=(List.getElem?_eq_some_iff.1 hu).1;simpa using this
 refine ⟨?_,fz j hj⟩;have hjj:j=0∨j=1∨j=2∨j=3∨j=4:=by omega
 rcases hjj with rfl | rfl | rfl | rfl | rfl
 ·injection hu with hu;subst hu;rw [Nat.add_zero,r5 _ (by omega),r4 _ (by omega),r3 _ (by omega),r2 _ (by omega)];exact a1
 ·injection hu with hu;subst hu;rw [r5 _ (by omega),r4 _ (by omega),r3 _ (by omega)];exact a2
 ·injection hu with hu;subst hu;rw [r5 _ (by omega),r4 _ (by omega)];exact a3
 ·injection hu with hu;subst hu;rw [r5 _ (by omega)];exact a4
 ·injection hu with hu;subst hu;exact a5
theorem qcu {o':Nat} {cs:List Value} (h:o'+cs.length≤o∨o+5≤o') (hc:az w g o' cs):az (qa2 w g o v0 v1 v2 v3 v4) g o' cs:=fun j u hu=>by
 have hj:=(List.getElem?_eq_some_iff.1 hu).1;exact ⟨(qjq (by omega)).trans (hc j u hu).1,by rw [qca];exact (hc j u hu).2⟩
end
end Tr
namespace Tr
open Go.Proofs Go.RowKit Go.Lib Utf Sc Re
def qdq (v:V) (w:World) (e:Ending) (w':World):Prop:=
 (∃ (cs:List Value) (F:List Nat),e = .returned (.agg cs.toArray)∧RdF w' v cs F∧F.Nodup∧∀ x∈F,w.heap.size≤x∧x<w'.heap.size)∧Below w.heap.size w w'
def qdZ (v:V):Prop:=∀ (cs:List Value) (w:World),RdA w 0 w.heap.size v cs→Calls Tryz.prog 32 #[.agg cs.toArray] w (qdq v w)
def qkt (w:World) (g o:Nat) (v:V) (F:List Nat):Prop:=∃ cs,az w g o cs∧RdF w v cs F
def Org (w:World) (n0 g o:Nat) (v:V):Prop:=∃ cs,az w g o cs∧RdA w 0 n0 v cs
structure qa9 (s o0 n0 N g k:Nat) (l:List V) (Fs:List (List Nat)) (w:World):Prop where
 len:Fs.length=k
 fin:∀ j (h1:j<l.length) (h2:j<Fs.length),qkt w g (j*s+o0) l[j] Fs[j]
 org:∀ j (h1:j<l.length),k≤j→Org w n0 g (j*s+o0) l[j]
 nod:Fs.flatten.Nodup
 rng:∀ x∈Fs.flatten,N≤x∧x<w.heap.size
theorem qkt.keep {w w':World} {g o:Nat} {v:V} {F:List Nat} (h:qkt w g o v F) (hg:w'.heap[g]? = w.heap[g]?) (hF:∀ k∈F,w'.heap[k]? = w.heap[k]?):qkt w' g o v F:=by
 obtain ⟨cs,h1,h2⟩:=h;exact ⟨cs,h1.keep hg,RdF.keep v cs F hF h2⟩
theorem Org.keep {w w':World} {n0 g o:Nat} {v:V} (h:Org w n0 g o v) (hg:w'.heap[g]? = w.heap[g]?) (hk:∀ k,k<n0→w'.heap[k]? = w.heap[k]?):Org w' n0 g o v:=by
 obtain ⟨cs,h1,h2⟩:=h;exact ⟨cs,h1.keep hg,RdA.keep (fun p _ hp=>cN (hk p.block hp)) (Nat.le_refl _) (Nat.le_refl _) v cs h2⟩
theorem qa9.keep {s o0 n0 N g k:Nat} {l:List V} {Fs:List (List Nat)} {w w':World} (h:qa9 s o0 n0 N g k l Fs w) (hb:Below w.heap.size w w') (hg:g<w.heap.size) (hn:n0≤w.heap.size):qa9 s o0 n0 N g k l Fs w' where
 len:=h.len
 fin:=fun j h1 h2=>(h.fin j h1 h2).keep (hb.block g hg) (fun x hx=>hb.block x (h.rng x (List.mem_flatten.2 ⟨_,List.getElem_mem h2,hx⟩)).2)
 org:=fun j h1 h2=>(h.org j h1 h2).keep (hb.block g hg) (fun k hk=>hb.block k (by omega))
 nod:=h.nod
 rng:=fun x hx=>⟨(h.rng x hx).1,Nat.lt_of_lt_of_le (h.rng x hx).2 hb.size⟩
theorem qbu (Fs:List (List Nat)) (F:List Nat):(Fs++[F]).flatten=Fs.flatten++F:=by simp
theorem qa9.step {s o0 n0 N g k M:Nat} {l:List V} {Fs:List (List Nat)} {w:World} (h:qa9 s o0 n0 N g k l Fs w) (hs:5≤s) (hk:k<l.length) (hgN:g<N) (hn:n0≤g) (hM:∀ x∈Fs.flatten,x<M) {v0 v1 v2 v3 v4:Value} {F:List Nat} (hNM:N≤M)
  (hF:RdF w l[k] [v0,v1,v2,v3,v4] F) (hnd:F.Nodup) (hr:∀ x∈F,M≤x∧x<w.heap.size):qa9 s o0 n0 N g (k+1) l (Fs++[F]) (qa2 w g (k*s+o0) v0 v1 v2 v3 v4) where
 len:=by simp [h.len]
 fin:=fun j h1 h2=>by
  have hl:=h.len;rcases Nat.lt_or_ge j k with c | c
  ·have e:(Fs++[F])[j]=Fs[j]'(by omega):=List.getElem_append_left (by omega);rw [e];obtain ⟨cs,p1,p2⟩:=h.fin j h1 (by omega);have hcl:cs.length=5:=by obtain ⟨_,_,_,_,_,_,e,_⟩:=p2.cells;rw [e];rfl
   have hmul:=Nat.mul_le_mul_right s (show j+1≤k by omega);rw [Nat.succ_mul] at hmul;exact ⟨cs,qcu (by omega) p1,RdF.keep _ cs _ (fun x hx=>br (by have:=(h.rng x (List.mem_flatten.2 ⟨_,List.getElem_mem (show j<Fs.length by omega),hx⟩)).1;omega)) p2⟩
  ·have hjk:j=k:=by simp [hl] at h2;omega
   subst hjk;have e:(Fs++[F])[j]'h2=F:=by rw [List.getElem_append_right (by omega)];simp [hl]
   rw [e];obtain ⟨cs,p1,p2⟩:=h.org j h1 (Nat.le_refl _);obtain ⟨o1,_⟩:=qbP p2;exact ⟨_,qjT o1 p1,RdF.keep _ _ _ (fun x hx=>br (by have:=(hr x hx).1;omega)) hF⟩
 org:=fun j h1 h2=>by
  obtain ⟨cs,p1,p2⟩:=h.org j h1 (by omega);obtain ⟨o1,_⟩:=qbP p2;have hmul:=Nat.mul_le_mul_right s (show k+1≤j by omega);rw [Nat.succ_mul] at hmul;exact ⟨cs,qcu (by omega) p1,RdA.keep (fun p _ hp=>cN (br (by omega))) (Nat.le_refl _) (Nat.le_refl _) _ cs p2⟩
 nod:=by
  rw [qbu,List.nodup_append];exact ⟨h.nod,hnd,fun a ha b hb e=>by subst e;have:=hM a ha;have:=(hr a hb).1;omega⟩
 rng:=fun x hx=>by
  rw [qbu,List.mem_append] at hx;rw [qdL];rcases hx with hx | hx
  ·exact h.rng x hx
  ·have:=hr x hx;omega
def qb0 (g:Nat) (ns:List (List UInt8)) (w:World):Prop:=∀ j (h:j<ns.length),az w g (j*6) [.string (ae ns[j])]
theorem qb0.keep {g:Nat} {ns:List (List UInt8)} {w w':World} (h:qb0 g ns w) (hg:w'.heap[g]? = w.heap[g]?):qb0 g ns w':=fun j hj=>(h j hj).keep hg
theorem qb0.step {g k:Nat} {ns:List (List UInt8)} {w:World} (h:qb0 g ns w) {v0 v1 v2 v3 v4:Value}:qb0 g ns (qa2 w g (k*6+1) v0 v1 v2 v3 v4):=fun j hj=>qcu (by simp;omega) (h j hj)
theorem qbd {w:World} {g o:Nat} {u:Value} {cs:List Value}:az w g o (u::cs)↔az w g o [u]∧az w g (o+1) cs:=by
 constructor
 ·refine fun h=>⟨fun j x hx=>?_,fun j x hx=>?_⟩
  ·cases j with
   | zero=>exact h 0 x (by simpa using hx)
   | succ j=>simp at hx
  ·have:=h (j+1) x (by simpa using hx);rwa [show o+(j+1)=o+1+j by omega] at this
 ·rintro ⟨h1,h2⟩ j x hx;cases j with
  | zero=>exact h1 0 x (by simpa using hx)
  | succ j=>
   have:=h2 j x (by simpa using hx);rwa [show o+1+j=o+(j+1) by omega] at this
theorem qih {w0 w:World} {g o0 n0 N lo hi go:Nat} {l:List V} (hr:aN w0 lo hi go o0 l) (hh:hi≤n0) (hk:∀ p:Addr,p.block<hi→w.cell? p=w0.cell? p) (rows:List (List Value)) (hrl:rows.length=l.length) (hr5:∀ r∈rows,r.length=5) (hrv:∀ k (h1:k<l.length) (h2:k<rows.length),RdA w0 lo hi l[k] rows[k]) (hc:az w g 0 rows.flatten):qa9 5 0 n0 N g 0 l [] w where
 len:=rfl
 fin:=fun j _ h=>by simp at h
 org:=fun j h _=>by
  have:=hr;have:=hc.sub hr5 j (by omega);rw [Nat.zero_add] at this;exact ⟨rows[j]'(by omega),this,RdA.keep (fun p _ hp=>hk p hp) (Nat.zero_le _) hh _ _ (hrv j h (by omega))⟩
 nod:=by simp
 rng:=fun x hx=>by simp at hx
theorem qic {w0 w:World} {g n0 N lo hi:Nat} {ns:List (List UInt8)} {l:List V} (hn:ns.length=l.length) (hh:hi≤n0) (hk:∀ p:Addr,p.block<hi→w.cell? p=w0.cell? p) (rows:List (List Value)) (hrl:rows.length=l.length) (hr6:∀ r∈rows,r.length=6) (hrv:∀ k (h1:k<l.length) (h2:k<rows.length) (h3:k<ns.length),∃ cs,rows[k] = .string (ae ns[k])::cs∧RdA w0 lo hi l[k] cs) (hc:az w g 0 rows.flatten):qa9 6 1 n0 N g 0 l [] w∧qb0 g ns w:=by
 refine ⟨⟨rfl,fun j _ h=>by simp at h,fun j h _=>?_,by simp,fun x hx=>by simp at hx⟩,fun j hj=>?_⟩
 ·have:=hc.sub hr6 j (by omega);obtain ⟨cs,e,hv⟩:=hrv j h (by omega) (by omega);rw [Nat.zero_add,e] at this;exact ⟨cs,(qbd.1 this).2,RdA.keep (fun p _ hp=>hk p hp) (Nat.zero_le _) hh _ _ hv⟩
 ·have:=hc.sub hr6 j (by omega);obtain ⟨cs,e,hv⟩:=hrv j (by omega) (by omega) hj;rw [Nat.zero_add,e] at this;exact (qbd.1 this).1
theorem qlm {n0 N g:Nat} {l:List V} {Fs:List (List Nat)} {w:World} (h:qa9 5 0 n0 N g l.length l Fs w):cj w g 0 l Fs.flatten:=
 cj.of_items l Fs 0 h.len fun j h1 h2=>by
  have:=h.fin j h1 h2;rw [Nat.zero_add];exact this
theorem qlp {n0 N g:Nat} {ns:List (List UInt8)} {l:List V} {Fs:List (List Nat)} {w:World} (hn:ns.length=l.length) (h:qa9 6 1 n0 N g l.length l Fs w) (h2:qb0 g ns w):cf w g 0 ns l Fs.flatten:=
 cf.of_items l ns Fs 0 h.len hn fun j j1 j2 j3=>by
  obtain ⟨cs,p1,p2⟩:=h.fin j j1 j2;rw [Nat.zero_add];exact ⟨cs,qbd.2 ⟨h2 j j3,p1⟩,p2⟩
